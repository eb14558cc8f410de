/-
  Open Opa Opo: as one text.
-/
import Derived.Test.YtmadlckladohbaaGreatPal
import Derived.SizedLaws
import Derived.ProofKit
import Derived.Deep.Slices
import Derived.Deep.Fields
import Derived.ChangeSame
import Derived.Test.YtmadlckladohbaaGreatPsn
/-
  The arguments read: a number, numbers, a run, runs; the rows' last step.
-/
set_option linter.unusedVariables false
namespace Go.Proofs.YtmadlckladohbaaGreat
open Go.ChangeShapes Go.WideShapes Go.ChangeAt Go.RowKit Go.Deep

theorem Tryz.own : ownKnob Tryz.prog.godebug = none := by kernel_rfl
theorem Tryz.laidOut : laidOutB Tryz.prog = true := by kernel_rfl

section
variable {H : Type} {enc : TypeId × Value → H} {w : World}
theorem int_open {fuel : Nat} {cs : List Value} {x : DataW H × List MemPlace} (h : DataW.trod enc Tryz.prog w 0 (fun _ => true) true fuel 3 cs = some x) :
    ∃ n : Int, cs = [.int .i64 n] ∧ -9223372036854775808 ≤ n ∧ n ≤ 9223372036854775807 := by
  obtain ⟨n, hcs, _, hw⟩ := DataW.trod_int Tryz.underlying3 h
  have hr : -9223372036854775808 ≤ n ∧ n ≤ 9223372036854775807 := by simpa [Lit.wf, IntKind.min, IntKind.max, IntKind.signed, IntKind.bits] using hw
  exact ⟨n, hcs, hr⟩
theorem ints_open {fuel : Nat} {cs : List Value} {x : DataW H × List MemPlace} (h : DataW.trod enc Tryz.prog w 0 (fun _ => true) true fuel 37 cs = some x) :
    ∃ (A : Option Addr) (n c : Nat) (zs : List Int), cs = [.slice A n c] ∧ n ≤ c ∧ c ≤ maxLen ∧ (A = none → n = 0 ∧ c = 0) ∧ zs.length = n ∧ (∀ z ∈ zs, -9223372036854775808 ≤ z ∧ z ≤ 9223372036854775807) ∧
      (0 < n → ∃ b off, A = some ⟨b, off, none⟩ ∧ b < w.heap.size ∧ ∀ j, j < n → w.cell? ⟨b, off + j, none⟩ = some (.int .i64 (zs[j]?.getD 0))) := by
  rcases open_ints Tryz.underlying37 Tryz.underlying3 (by kernel_rfl) h with ⟨hcs, _⟩ | ⟨a, len, cap, zs, hcs, _, hl, hm, hz, _, hc, hw⟩
  · exact ⟨none, 0, 0, [], hcs, Nat.le_refl _, Nat.zero_le _, fun _ => ⟨rfl, rfl⟩, rfl, fun z h => by simp at h, fun h => absurd h (by decide)⟩
  · have hz' : zs.length = cap := by simpa using hz
    refine ⟨some a, len, cap, zs.take len, hcs, hl, hm, (fun e => by cases e), by simp; omega, fun z hz => ?_, fun h0 => ?_⟩
    · have hwf := hw z (List.mem_of_mem_take hz)
      simpa [Lit.wf, IntKind.min, IntKind.max, IntKind.signed, IntKind.bits] using hwf
    · have hsp : a = ⟨a.block, a.off, none⟩ := by
        have h := hc 0 (by omega)
        have e : a.add 0 = a := by cases a; simp [Addr.add]
        rw [e] at h
        unfold World.cell? at h
        split at h
        · split at h
          · cases h
          · rename_i hs
            cases a
            simp at hs ⊢
            exact hs
        · cases h
      refine ⟨a.block, a.off, by rw [← hsp], ?_, fun j hj => ?_⟩
      · have := World.block_lt_of_cell? w _ (hc 0 (by omega))
        rwa [show (a.add 0).block = a.block by unfold Addr.add; split <;> rfl] at this
      · have := hc j (by omega)
        rw [hsp, Addr.add_lit] at this
        rw [this, List.getElem?_take, if_pos hj, List.getD_eq_getElem?_getD]

theorem list_of {α : Type} (P : Nat → α → Prop) : ∀ n : Nat, (∀ i, i < n → ∃ o, P i o) → ∃ l : List α, l.length = n ∧ ∀ i o, l[i]? = some o → P i o
  | 0, _ => ⟨[], rfl, fun i o h => by simp at h⟩
  | n + 1, h => by
    obtain ⟨l, hl, hp⟩ := list_of P n (fun i hi => h i (by omega))
    obtain ⟨o, ho⟩ := h n (by omega)
    refine ⟨l ++ [o], by simp [hl], fun i o' hi => ?_⟩
    rw [List.getElem?_append] at hi
    split at hi
    · exact hp i o' hi
    · rename_i hlt
      have : i - l.length = 0 := by
        rcases Nat.eq_zero_or_pos (i - l.length) with h | h
        · exact h
        · rw [List.getElem?_eq_none (by simp; omega)] at hi; cases hi
      have hin : i = n := by omega
      rw [this] at hi
      simp at hi
      subst hi hin
      exact ho
theorem spot_of {w : World} {a : Addr} {v : Value} (h : w.cell? (a.add 0) = some v) : a = ⟨a.block, a.off, none⟩ := by
  have e : a.add 0 = a := by cases a; simp [Addr.add]
  rw [e] at h
  unfold World.cell? at h
  split at h
  · split at h
    · cases h
    · rename_i hs
      cases a
      simp at hs ⊢
      exact hs
  · cases h
theorem run_open {fuel : Nat} {cs : List Value} {x : DataW H × List MemPlace} (hcl : cs.length = 2) (h : DataW.trod enc Tryz.prog w 0 (fun _ => true) true fuel 44 cs = some x) :
    ∃ r : R, cs = [.int .i64 r.1, .int .i64 r.2] ∧ I64 r := by
  obtain ⟨v0, v1, rfl⟩ : ∃ v0 v1, cs = [v0, v1] := by
    match cs, hcl with
    | [v0, v1], _ => exact ⟨v0, v1, rfl⟩
  obtain ⟨ys, n', _, hy, _, hyl, hf⟩ := DataW.trod_struct Tryz.underlying44 h
  have c3 : Tryz.prog.cellsOf 3 = 1 := by kernel_rfl
  have hyl5 : ys.length = 2 := hyl
  have t0 : DataW.trod enc Tryz.prog w 0 (fun _ => true) true n' 3 (([v0, v1].drop 0).take (Tryz.prog.cellsOf 3)) = ys[0]? := hf 0 _ rfl
  have t1 : DataW.trod enc Tryz.prog w 0 (fun _ => true) true n' 3 (([v0, v1].drop 1).take (Tryz.prog.cellsOf 3)) = ys[1]? := hf 1 _ rfl
  rw [c3, List.getElem?_eq_getElem (by omega)] at t0 t1
  obtain ⟨k, e0, k1, k2⟩ := int_open t0
  obtain ⟨m, e1, m1, m2⟩ := int_open t1
  simp only [List.drop_zero, List.drop_succ_cons, List.take_succ_cons, List.take_zero, List.cons.injEq, and_true] at e0 e1
  subst e0 e1
  exact ⟨(k, m), rfl, k1, k2, m1, m2⟩
theorem one_bulk (d : DataW H) : 1 ≤ Rows.uptoBulk d := by
  cases d with
  | lit l => cases l <;> simp [Rows.uptoBulk]
  | nil => simp [Rows.uptoBulk]
  | ptr d => simp [Rows.uptoBulk]
  | slice elems spare => simp [Rows.uptoBulk]
  | agg parts => simp [Rows.uptoBulk]
  | iface t d => simp [Rows.uptoBulk]
  | map entries => simp [Rows.uptoBulk]
  | held h => simp [Rows.uptoBulk]
theorem len_bulk (l : List (DataW H)) : l.length ≤ Rows.uptoBulkAll l := by
  induction l with
  | nil => simp [Rows.uptoBulkAll]
  | cons x r ih =>
    have := one_bulk x
    simp only [Rows.uptoBulkAll, List.length_cons]
    omega
theorem slice_bulk (elems spare : List (DataW H)) : elems.length ≤ Rows.uptoBulk (.slice elems spare) := by
  have := len_bulk elems
  simp only [Rows.uptoBulk]
  omega
theorem bulk_cons (d : DataW H) (l : List (DataW H)) : Rows.uptoBulk d ≤ Rows.uptoBulkAll (d :: l) ∧ Rows.uptoBulkAll l ≤ Rows.uptoBulkAll (d :: l) := by
  simp only [Rows.uptoBulkAll]
  omega
theorem runs_open {fuel : Nat} {cs : List Value} {x : DataW H × List MemPlace} (h : DataW.trod enc Tryz.prog w 0 (fun _ => true) true fuel 22 cs = some x) :
    ∃ (A : Option Addr) (n c : Nat) (l : List R), cs = [.slice A n c] ∧ Row w (.slice A n c) l ∧ (∀ y ∈ l, I64 y) ∧ n ≤ Rows.uptoBulk x.1 := by
  rcases open_slice Tryz.underlying22 h with ⟨hcs, _⟩ | ⟨a, len, cap, m, n, D, Pl, hcs, _, hl, hm, hmm, hx, hi⟩
  · exact ⟨none, 0, 0, [], hcs, Row.nil_ w, (fun y h => by simp at h), Nat.zero_le _⟩
  · have hm' : m = cap := by simpa using hmm
    have h5 : Tryz.prog.cellsOf 44 = 2 := by kernel_rfl
    rw [h5] at hi
    have hspot : 0 < len → a = ⟨a.block, a.off, none⟩ := by
      intro h0
      obtain ⟨cs', hc, _⟩ := hi 0 (by omega)
      obtain ⟨_, hcl, hat⟩ := World.cells?_some hc
      have e : a.add (0 * 2) = a := by cases a; simp [Addr.add]
      rw [e] at hat
      have h1 := hat 0 (by omega)
      rw [List.getElem?_eq_getElem (by omega)] at h1
      exact spot_of h1
    have each : ∀ i, i < len → ∃ o : R, I64 o ∧ a = ⟨a.block, a.off, none⟩ ∧ a.block < w.heap.size ∧ w.cell? ⟨a.block, a.off + i * 2, none⟩ = some (.int .i64 o.1) ∧ w.cell? ⟨a.block, a.off + i * 2 + 1, none⟩ = some (.int .i64 o.2) := by
      intro i hil
      obtain ⟨cs', hc, ht⟩ := hi i (by omega)
      obtain ⟨_, hcl, hat⟩ := World.cells?_some hc
      obtain ⟨r, rfl, hr⟩ := run_open hcl ht
      have h0 := hat 0 (by omega)
      have h1 := hat 1 (by omega)
      have hblt := World.block_lt_of_cell? w _ h0
      have hasp := hspot (by omega)
      rw [hasp, Addr.add_lit, Addr.add_lit] at h0 h1
      rw [hasp, Addr.add_lit, Addr.add_lit] at hblt
      exact ⟨r, hr, hasp, hblt, by simpa using h0, by simpa using h1⟩
    obtain ⟨l, hll, hlp⟩ := list_of _ len each
    refine ⟨some a, len, cap, l, hcs, ⟨some a, cap, by rw [hll], fun h0 => ?_, (fun e => by cases e), by omega, by simp only [maxLen] at hm; omega⟩, ?_, by rw [hx]; have := slice_bulk ((List.range len).map D) ((List.range (m - len)).map fun j => D (len + j)); simpa using this⟩
    · obtain ⟨o, ho⟩ : ∃ o, l[0]? = some o := ⟨_, List.getElem?_eq_getElem (by omega)⟩
      obtain ⟨_, e1, e2, _⟩ := hlp 0 o ho
      refine ⟨a.block, a.off, by rw [← e1], e2, fun j u hu => ?_⟩
      have hj : j < (rc l).length := (List.getElem?_eq_some_iff.1 hu).1
      rw [rc_length] at hj
      have hk : j / 2 < l.length := by omega
      have hx : l[j / 2]? = some l[j / 2] := List.getElem?_eq_getElem hk
      obtain ⟨_, _, _, q1, q2⟩ := hlp _ _ hx
      rcases (by omega : j = j / 2 * 2 ∨ j = j / 2 * 2 + 1) with e | e
      · rw [e, rc_get0 hx] at hu
        rw [e, ← hu]
        exact q1
      · rw [e, rc_get1 hx] at hu
        rw [e, ← hu, ← Nat.add_assoc]
        exact q2
    · intro o ho
      obtain ⟨i, hi'⟩ := List.getElem?_of_mem ho
      exact (hlp i o hi').1

set_option maxRecDepth 100000 in
theorem runs_arg {base : Nat} {v : Value} {d : DataW H} {p : List MemPlace} (hv : Value.okWide Tryz.prog w .any base 22 v) (h : DataW.Trod enc Tryz.prog w 0 (fun _ => true) true 22 v d p) : ∃ l : List R, Row w v l ∧ ∀ y ∈ l, I64 y := by
  obtain ⟨fuel, hf⟩ := h
  obtain ⟨A, n, c, l, e, hr, hi, _⟩ := runs_open hf
  obtain ⟨a', l', c', rfl⟩ := okWide_slice Tryz.underlying22 hv
  have e2 : Value.slice a' l' c' = .slice A n c := by simpa [Value.cells] using e
  rw [e2]
  exact ⟨l, hr, hi⟩
set_option maxRecDepth 100000 in
theorem run_arg {base : Nat} {v : Value} {d : DataW H} {p : List MemPlace} (hv : Value.okWide Tryz.prog w .any base 44 v) (h : DataW.Trod enc Tryz.prog w 0 (fun _ => true) true 44 v d p) : ∃ r : R, v = .agg #[.int .i64 r.1, .int .i64 r.2] ∧ I64 r := by
  obtain ⟨fuel, hf⟩ := h
  obtain ⟨cs, rfl, hsz⟩ := okWide_struct Tryz.underlying44 hv
  rw [show Tryz.prog.cellsOf 44 = 2 by kernel_rfl] at hsz
  obtain ⟨r, e, hr⟩ := run_open (by simpa [Value.cells] using hsz) hf
  refine ⟨r, ?_, hr⟩
  have : cs.toList = [.int .i64 r.1, .int .i64 r.2] := by simpa [Value.cells] using e
  rw [show cs = #[.int .i64 r.1, .int .i64 r.2] from Array.toList_inj.1 this]

/-- An argument reads behind the call as it read before. -/
theorem later {t : TypeId} (hr : Tryz.prog.readableRec t = true) (hrow : t < Tryz.prog.types.size) {W W' : World} {v : Value} {d : DataW H} {ps : List MemPlace} {sp : Nat → Bool}
    (h : DataW.Trod enc Tryz.prog W 0 (fun _ => true) true t v d ps) (hb : Below W.heap.size W W') (hlt : ∀ x ∈ ps, x.block < W.heap.size) (hs : ∀ x ∈ ps, sp x.block = true) : DataW.Trod enc Tryz.prog W' 0 sp true t v d ps :=
  WideElems.Trod_stays Tryz.laidOut hr hrow h (fun x hx => hb.same (hlt x hx)) hs

/-- The row's last step, where of what is new only its being new is known. -/
theorem post_new {f : Func} {s : ChangeSpec} {W W' : World} {args : Array Value} {v : Value} {ds gs : List (DataW H)} {before pa pv : List MemPlace}
    (hW : DataW.Whole enc Tryz.prog f.params.toList s.vars false W args.toList ds gs before)
    (hres : ∀ (b : Nat) (sp : Nat → Bool) (hd : Bool), DataW.TrodAll enc Tryz.prog W' b sp hd f.resultTypes.toList (v.resultList f.resultTypes.size) (s.fn H (ds ++ gs)).results [])
    (hargs : ∀ sp : Nat → Bool, (∀ p ∈ before, sp p.block = true) → DataW.TrodAll enc Tryz.prog W' 0 sp true f.params.toList args.toList (s.fn H (ds ++ gs)).args pa)
    (hvars : ∀ sp : Nat → Bool, (∀ p ∈ before, sp p.block = true) → DataW.TrodVars enc Tryz.prog W' sp s.vars (s.fn H (ds ++ gs)).vars pv)
    (hps : before = pa ++ pv) (hb : Below W.heap.size W W') :
    s.post enc Tryz.prog f false true false false W args v W' := by
  have hlt : ∀ p ∈ before, p.block < W.heap.size := fun p hp => hW.lt p hp
  have hold : ∀ p ∈ before, (fun b => decide (b < W.heap.size)) p.block = true := fun p hp => by simpa using hlt p hp
  refine ⟨ds, gs, before, [], pa, pv, hW, hres _ _ _, hargs _ hold, hvars _ hold, World.keptBut_mono (fun p hp => ⟨hp, ?_⟩) (hb.frame (· ∈ before)), fun h => (nomatch h)⟩
  rw [hps, List.mem_append] at hp
  exact Or.inr hp
end
end Go.Proofs.YtmadlckladohbaaGreat

/-
  The arguments read: two numbers.
-/
set_option linter.unusedVariables false
namespace Go.Proofs.YtmadlckladohbaaGreat
open Go.ChangeShapes Go.WideShapes Go.ChangeAt Go.RowKit Go.Deep

theorem okWide_array {P : Program} {w : World} {q : Reach} {base : Nat} {t e : TypeId} {n : Nat} {v : Value} (ht : P.underlying t = some (.array n e)) (h : Value.okWide P w q base t v) : ∃ cs, v = .agg cs ∧ cs.size = P.cellsOf t := by
  simp only [Value.okWide, ht] at h
  obtain ⟨cs, h1, h2, _⟩ := h
  exact ⟨cs, h1, h2⟩
section
variable {H : Type} {enc : TypeId × Value → H} {w : World}
set_option maxRecDepth 100000 in
theorem int_arg {base : Nat} {v : Value} {d : DataW H} {p : List MemPlace} (hv : Value.okWide Tryz.prog w .any base 3 v) (h : DataW.Trod enc Tryz.prog w 0 (fun _ => true) true 3 v d p) : ∃ k : Int, v = .int .i64 k ∧ -9223372036854775808 ≤ k ∧ k ≤ 9223372036854775807 := by
  obtain ⟨a0, rfl, _, _, w0⟩ := open_int Tryz.underlying3 hv h
  have hr : -9223372036854775808 ≤ a0 ∧ a0 ≤ 9223372036854775807 := by simpa [Lit.wf, IntKind.min, IntKind.max, IntKind.signed, IntKind.bits] using w0
  exact ⟨a0, rfl, hr⟩
set_option maxRecDepth 100000 in
theorem threeI_arg {base : Nat} {v : Value} {d : DataW H} {p : List MemPlace} (hv : Value.okWide Tryz.prog w .any base 25 v) (h : DataW.Trod enc Tryz.prog w 0 (fun _ => true) true 25 v d p) :
    ∃ k0 k1 k2 : Int, v = .agg #[.int .i64 k0, .int .i64 k1, .int .i64 k2] ∧ k0 ≤ 9223372036854775807 := by
  obtain ⟨fuel, hf⟩ := h
  obtain ⟨cs, rfl, hsz⟩ := okWide_array Tryz.underlying25 hv
  rw [show Tryz.prog.cellsOf 25 = 3 by kernel_rfl] at hsz
  obtain ⟨ys, n', _, _, hcl, hyl, hg⟩ := DataW.trod_array Tryz.underlying25 (show DataW.trod enc Tryz.prog w 0 (fun _ => true) true fuel 25 cs.toList = some (d, p) by simpa [Value.cells] using hf)
  rw [show Tryz.prog.cellsOf 3 = 1 by kernel_rfl] at hg
  have hl : cs.toList.length = 3 := by simpa using hsz
  have each : ∀ i, i < 3 → ∃ b : Int, (cs.toList.drop (i * 1)).take 1 = [.int .i64 b] ∧ -9223372036854775808 ≤ b ∧ b ≤ 9223372036854775807 := fun i hi => by
    obtain ⟨y, hy⟩ : ∃ y, ys[i]? = some y := ⟨_, List.getElem?_eq_getElem (by omega)⟩
    exact int_open ((hg i hi).trans hy)
  obtain ⟨a0, e0, r0⟩ := each 0 (by decide)
  obtain ⟨a1, e1, _⟩ := each 1 (by decide)
  obtain ⟨a2, e2, _⟩ := each 2 (by decide)
  refine ⟨a0, a1, a2, ?_, r0.2⟩
  have s : cs.toList = (cs.toList.drop (0 * 1)).take 1 ++ ((cs.toList.drop (1 * 1)).take 1 ++ (cs.toList.drop (2 * 1)).take 1) := by
    generalize cs.toList = l at hl
    match l, hl with
    | [_, _, _], _ => rfl
  rw [e0, e1, e2] at s
  congr 1
  exact Array.toList_inj.1 s
set_option maxRecDepth 100000 in
/-- A state of the document's. -/
theorem state_arg {base : Nat} {v : Value} {d : DataW H} {p : List MemPlace} (hv : Value.okWide Tryz.prog w .any base 24 v) (h : DataW.Trod enc Tryz.prog w 0 (fun _ => true) true 24 v d p) :
    ∃ (A B : Option Addr) (n c m k : Nat) (a b : List R), v = .agg #[.slice A n c, .slice B m k] ∧ Row w (.slice A n c) a ∧ Row w (.slice B m k) b ∧ (∀ y ∈ a, I64 y) ∧ (∀ y ∈ b, I64 y) ∧ n ≤ Rows.uptoBulk d ∧ m ≤ Rows.uptoBulk d := by
  obtain ⟨fuel, hf⟩ := h
  obtain ⟨cs, rfl, hsz⟩ := okWide_struct Tryz.underlying24 hv
  rw [show Tryz.prog.cellsOf 24 = 2 by kernel_rfl] at hsz
  obtain ⟨v0, v1, hcs⟩ : ∃ v0 v1, cs.toList = [v0, v1] := by
    have hl : cs.toList.length = 2 := by simpa using hsz
    match cs.toList, hl with
    | [v0, v1], _ => exact ⟨v0, v1, rfl⟩
  have hf' : DataW.trod enc Tryz.prog w 0 (fun _ => true) true fuel 24 [v0, v1] = some (d, p) := by rw [← hcs]; simpa [Value.cells] using hf
  obtain ⟨ys, n', _, hd, _, hyl, hg⟩ := DataW.trod_struct Tryz.underlying24 hf'
  have c3 : Tryz.prog.cellsOf 22 = 1 := by kernel_rfl
  have hyl5 : ys.length = 2 := hyl
  have t0 : DataW.trod enc Tryz.prog w 0 (fun _ => true) true n' 22 (([v0, v1].drop 0).take (Tryz.prog.cellsOf 22)) = ys[0]? := hg 0 _ rfl
  have t1 : DataW.trod enc Tryz.prog w 0 (fun _ => true) true n' 22 (([v0, v1].drop 1).take (Tryz.prog.cellsOf 22)) = ys[1]? := hg 1 _ rfl
  obtain ⟨y0, y1, rfl⟩ : ∃ y0 y1, ys = [y0, y1] := by
    match ys, hyl5 with
    | [y0, y1], _ => exact ⟨y0, y1, rfl⟩
  rw [c3] at t0 t1
  obtain ⟨A, n, c, a, e0, ha, hai, hab⟩ := runs_open (x := y0) (by simpa using t0)
  obtain ⟨B, m, k, b, e1, hb, hbi, hbb⟩ := runs_open (x := y1) (by simpa using t1)
  simp only [List.cons.injEq, and_true] at e0 e1
  subst e0 e1
  have hd1 : d = .agg [y0.1, y1.1] := congrArg Prod.fst hd
  have hbk : Rows.uptoBulk y0.1 ≤ Rows.uptoBulk d ∧ Rows.uptoBulk y1.1 ≤ Rows.uptoBulk d := by
    rw [hd1]
    simp only [Rows.uptoBulk, Rows.uptoBulkAll]
    omega
  refine ⟨A, B, n, c, m, k, a, b, ?_, ha, hb, hai, hbi, Nat.le_trans hab hbk.1, Nat.le_trans hbb hbk.2⟩
  rw [show cs = #[.slice A n c, .slice B m k] from Array.toList_inj.1 hcs]
end
theorem row_n {w : World} {A : Option Addr} {n c : Nat} {l : List R} (h : Row w (.slice A n c) l) : l.length = n := by
  obtain ⟨A', c', e, _⟩ := h
  simp only [Value.slice.injEq] at e
  exact e.2.1.symm
end Go.Proofs.YtmadlckladohbaaGreat

/-
  The arguments read: a script.
-/
set_option linter.unusedVariables false
namespace Go.Proofs.YtmadlckladohbaaGreat
open Go.ChangeShapes Go.WideShapes Go.ChangeAt Go.RowKit Go.Deep

theorem ocs_length (l : List OpD) : (ocs l).length = l.length * 5 := by
  induction l with
  | nil => rfl
  | cons x l ih =>
    rw [ocs_cons, List.length_append, ih, List.length_cons]
    show 5 + _ = _
    omega
section
variable {H : Type} {enc : TypeId × Value → H} {w : World}
theorem op_open {fuel : Nat} {cs : List Value} {x : DataW H × List MemPlace} (hcl : cs.length = 5) (h : DataW.trod enc Tryz.prog w 0 (fun _ => true) true fuel 46 cs = some x) :
    ∃ o : OpD, cs = oc o ∧ I64o o := by
  obtain ⟨v0, v1, v2, v3, v4, rfl⟩ : ∃ v0 v1 v2 v3 v4, cs = [v0, v1, v2, v3, v4] := by
    match cs, hcl with
    | [v0, v1, v2, v3, v4], _ => exact ⟨v0, v1, v2, v3, v4, rfl⟩
  obtain ⟨ys, n', _, hy, _, hyl, hf⟩ := DataW.trod_struct Tryz.underlying46 h
  have c3 : Tryz.prog.cellsOf 3 = 1 := by kernel_rfl
  have c4 : Tryz.prog.cellsOf 44 = 2 := by kernel_rfl
  have hyl5 : ys.length = 4 := hyl
  have t0 : DataW.trod enc Tryz.prog w 0 (fun _ => true) true n' 3 (([v0, v1, v2, v3, v4].drop 0).take (Tryz.prog.cellsOf 3)) = ys[0]? := hf 0 _ rfl
  have t1 : DataW.trod enc Tryz.prog w 0 (fun _ => true) true n' 3 (([v0, v1, v2, v3, v4].drop 1).take (Tryz.prog.cellsOf 3)) = ys[1]? := hf 1 _ rfl
  have t2 : DataW.trod enc Tryz.prog w 0 (fun _ => true) true n' 3 (([v0, v1, v2, v3, v4].drop 2).take (Tryz.prog.cellsOf 3)) = ys[2]? := hf 2 _ rfl
  have t3 : DataW.trod enc Tryz.prog w 0 (fun _ => true) true n' 44 (([v0, v1, v2, v3, v4].drop 3).take (Tryz.prog.cellsOf 44)) = ys[3]? := hf 3 _ rfl
  rw [c3, List.getElem?_eq_getElem (by omega)] at t0 t1 t2
  rw [c4, List.getElem?_eq_getElem (by omega)] at t3
  obtain ⟨k, e0, k1⟩ := int_open t0
  obtain ⟨m, e1, m1⟩ := int_open t1
  obtain ⟨q, e2, q1⟩ := int_open t2
  obtain ⟨r, e3, r1⟩ := run_open (by simp) t3
  simp only [List.drop_zero, List.drop_succ_cons, List.take_succ_cons, List.take_zero, List.cons.injEq, and_true] at e0 e1 e2 e3
  obtain ⟨rfl, rfl⟩ := e3
  subst e0 e1 e2
  exact ⟨⟨k, m, q, r.1, r.2⟩, rfl, k1, m1, q1, r1⟩
theorem ops_open {fuel : Nat} {cs : List Value} {x : DataW H × List MemPlace} (h : DataW.trod enc Tryz.prog w 0 (fun _ => true) true fuel 26 cs = some x) :
    ∃ (A : Option Addr) (n c : Nat) (l : List OpD), cs = [.slice A n c] ∧ Os w A l ∧ l.length = n ∧ (∀ o ∈ l, I64o o) ∧ n ≤ Rows.uptoBulk x.1 := by
  rcases open_slice Tryz.underlying26 h with ⟨hcs, _⟩ | ⟨a, len, cap, m, n, D, Pl, hcs, _, hl, hm, hmm, hx, hi⟩
  · exact ⟨none, 0, 0, [], hcs, Os.nil_ w _, rfl, (fun y h => by simp at h), Nat.zero_le _⟩
  · have hm' : m = cap := by simpa using hmm
    have h5 : Tryz.prog.cellsOf 46 = 5 := by kernel_rfl
    rw [h5] at hi
    have hspot : 0 < len → a = ⟨a.block, a.off, none⟩ := by
      intro h0
      obtain ⟨cs', hc, _⟩ := hi 0 (by omega)
      obtain ⟨_, hcl, hat⟩ := World.cells?_some hc
      have e : a.add (0 * 5) = a := by cases a; simp [Addr.add]
      rw [e] at hat
      have h1 := hat 0 (by omega)
      rw [List.getElem?_eq_getElem (by omega)] at h1
      exact spot_of h1
    have each : ∀ i, i < len → ∃ o : OpD, I64o o ∧ a = ⟨a.block, a.off, none⟩ ∧ a.block < w.heap.size ∧ ∀ j u, (oc o)[j]? = some u → w.cell? ⟨a.block, a.off + i * 5 + j, none⟩ = some u := by
      intro i hil
      obtain ⟨cs', hc, ht⟩ := hi i (by omega)
      obtain ⟨_, hcl, hat⟩ := World.cells?_some hc
      obtain ⟨o, rfl, hr⟩ := op_open hcl ht
      have h0 := hat 0 (by omega)
      have hblt := World.block_lt_of_cell? w _ (h0.trans (show (oc o)[0]? = some (.int .i64 o.k) from rfl))
      have hasp := hspot (by omega)
      rw [hasp, Addr.add_lit, Addr.add_lit] at hblt
      refine ⟨o, hr, hasp, hblt, fun j u hu => ?_⟩
      have hj : j < 5 := (List.getElem?_eq_some_iff.1 hu).1
      have h1 := hat j hj
      rw [hasp, Addr.add_lit, Addr.add_lit, hu] at h1
      exact h1
    obtain ⟨l, hll, hlp⟩ := list_of _ len each
    refine ⟨some a, len, cap, l, hcs, fun h0 => ?_, hll, fun o ho => ?_, by rw [hx]; have := slice_bulk ((List.range len).map D) ((List.range (m - len)).map fun j => D (len + j)); simpa using this⟩
    · obtain ⟨o, ho⟩ : ∃ o, l[0]? = some o := ⟨_, List.getElem?_eq_getElem h0⟩
      obtain ⟨_, e1, e2, _⟩ := hlp 0 o ho
      refine ⟨a.block, a.off, by rw [← e1], e2, fun j u hu => ?_⟩
      have hj : j < (ocs l).length := (List.getElem?_eq_some_iff.1 hu).1
      rw [ocs_length] at hj
      have hk : j / 5 < l.length := by omega
      have hx : l[j / 5]? = some l[j / 5] := List.getElem?_eq_getElem hk
      obtain ⟨_, _, _, hq⟩ := hlp _ _ hx
      have hu' := ocs_get (j % 5) (by omega) hx
      rw [show j / 5 * 5 + j % 5 = j by omega, hu] at hu'
      have := hq _ _ hu'.symm
      rwa [Nat.add_assoc, show j / 5 * 5 + j % 5 = j by omega] at this
    · obtain ⟨i, hi'⟩ := List.getElem?_of_mem ho
      exact (hlp i o hi').1
set_option maxRecDepth 100000 in
theorem ops_arg {base : Nat} {v : Value} {d : DataW H} {p : List MemPlace} (hv : Value.okWide Tryz.prog w .any base 26 v) (h : DataW.Trod enc Tryz.prog w 0 (fun _ => true) true 26 v d p) :
    ∃ (C : Option Addr) (n c : Nat) (l : List OpD), v = .slice C n c ∧ Os w C l ∧ l.length = n ∧ (∀ o ∈ l, I64o o) ∧ n ≤ Rows.uptoBulk d := by
  obtain ⟨fuel, hf⟩ := h
  obtain ⟨A, n, c, l, e, ho, hln, hi, hb⟩ := ops_open hf
  obtain ⟨a', l', c', rfl⟩ := okWide_slice Tryz.underlying26 hv
  have e2 : Value.slice a' l' c' = .slice A n c := by simpa [Value.cells] using e
  exact ⟨A, n, c, l, e2, ho, hln, hi, hb⟩
end
end Go.Proofs.YtmadlckladohbaaGreat
