/-
  A pool: State, Copy.
-/
import Derived.Test.YtmadlckladohbaaGreatPse
set_option linter.unusedVariables false
namespace Go.Proofs.YtmadlckladohbaaGreat
open Go.RowKit Go.Shelf

theorem results_cell {fn : Func} {P : Program} {p : Tmp} {ty : TypeId} {tmps : Array Value} {w : World} {a : Addr} {v : Value} (h : fn.results = #[.cell p ty]) (ha : tmps.getD p undef = .pointer (some a)) (hl : (loadVar ty a).run P w = .ok v w) :
    (results fn tmps).run P w = .ok v w := by
  rw [Array.getD_eq_getD_getElem?] at ha
  simp only [results, h]
  simp [ha, asAddr, hl]
theorem load_state {w : World} {q : Nat} {A B : Option Addr} {n c m d : Nat} (h : Blk w q 35 [.slice A n c, .slice B m d]) : (loadVar 35 ⟨q, 0, none⟩).run Tryz.prog w = .ok (.agg #[.slice A n c, .slice B m d]) w := by
  have hl := run_loadCells_list (P := Tryz.prog) w ⟨q, 0, none⟩ [.slice A n c, .slice B m d] (fun j z hz => by rw [Addr.add_lit, h.cell, Nat.zero_add]; exact hz)
  simp only [List.length_cons, List.length_nil] at hl
  simp [loadVar, hl]
theorem look_later {w : World} {pb mb n : Nat} {S : PS} {fv : Value} {fl : List R} {D : DataW Value} (h : AtD w pb mb n S fv fl D) {t : Int} (ht : (Lit.int .i64 t).wf = true) :
    ∃ v l, (∀ W, Only (w.heap.size ≤ ·) w W → (Instr.lookup 66 (.map (some mb)) (.int .i64 t) false).run Tryz.prog W = .ok v W) ∧ Row w v l ∧ Off pb v l ∧ IsRow l (S.H t) := by
  obtain ⟨v', l, e1, e2, e3, e4⟩ := h.2.2.2.2.2 t
  refine ⟨v', l, fun W hW => ?_, e2, e3, e4⟩
  obtain ⟨v, ps, hrun, hv⟩ := World.ownsMap.lookup (h.later hW).2.2.2.2.1 keyed Tryz.underlying66 (z := nilV) (Tryz.zeroValue33 W) (zd := .held nilV) (zp := []) rfl (Maps.keyOf_int_mk Tryz.underlying3 ht)
  have h1 : DataW.held v = D.atKey (.int .i64 t) (.held nilV) := congrArg Prod.fst (Option.some.inj hv)
  rw [e1] at h1
  obtain rfl : v = v' := by injection h1
  exact hrun

def StateSays (w : World) (S : PS) (t : Int) (e : Ending) (w' : World) : Prop :=
  ∃ A n c B m d la lb, e = .returned (.agg #[.slice A n c, .slice B m d]) ∧ Row w' (.slice A n c) la ∧ Row w' (.slice B m d) lb ∧ IsRow la (fun p => S.F p ∨ ∃ u, u ≠ t ∧ S.H u p) ∧ IsRow lb (S.H t) ∧ Only (w.heap.size ≤ ·) w w'
set_option maxRecDepth 100000 in
set_option maxHeartbeats 6400000 in
theorem State_c (w : World) (pb mb n : Nat) (S : PS) (t : Int) (h : At w pb mb n S) (hok : S.Ok) (ht : -9223372036854775808 ≤ t ∧ t ≤ 9223372036854775807) :
    Calls Tryz.prog 24 #[.pointer (some ⟨pb, 0, none⟩), .int .i64 t] w (StateSays w S t) := by
  obtain ⟨fv, fl, D, h⟩ := h
  have HAT := Lib.hid h
  have HTW : Hid ((Lit.int .i64 t).wf = true) := Lib.hid (by simp [Lit.wf, IntKind.min, IntKind.max, IntKind.signed, IntKind.bits]; omega)
  obtain ⟨vl, ll, hlk, hrl, hol, hlr⟩ := look_later h HTW.out
  have HLK := Lib.hid hlk
  have HRL := Lib.hid hrl
  have HLR := Lib.hid hlr
  have HLN : Hid (ll.length ≤ 1000000) := Lib.hid (Nat.le_trans (right_length hlr.1) (by decide))
  have HFI : Hid (∀ y ∈ fl, I64 y) := Lib.hid (i64_of h.2.2.2.1.1)
  obtain ⟨A, nn, cc, rfl⟩ := h.2.1.form
  have HRF : Hid (Row w (.slice A nn cc) fl) := Lib.hid h.2.1
  have HFR : Hid (IsRow fl S.F) := Lib.hid h.2.2.2.1
  obtain ⟨w2, hw2⟩ : ∃ w2, w2 = (w.alloc (.cells #[.int .i64 t] 3)).alloc (.cells #[.slice none 0 0, .slice none 0 0] 35) := ⟨_, rfl⟩
  obtain ⟨b3, hb3⟩ : ∃ b3, b3 = w.heap.size := ⟨_, rfl⟩
  obtain ⟨b4, hb4⟩ : ∃ b4, b4 = w.heap.size + 1 := ⟨_, rfl⟩
  have HB3 : Hid (Blk w2 b3 3 [.int .i64 t]) := Lib.hid (by rw [hw2, hb3]; exact (Blk.new w _ [.int .i64 t]).alloc _)
  have HB4 : Hid (Blk w2 b4 35 [.slice none 0 0, .slice none 0 0]) := Lib.hid (by
    rw [hw2, hb4]
    have := Blk.new (w.alloc (.cells #[.int .i64 t] 3)) 35 [.slice none 0 0, .slice none 0 0]
    rwa [show (w.alloc (.cells #[.int .i64 t] 3)).heap.size = w.heap.size + 1 by simp] at this)
  have HOW : Hid (Only (w.heap.size ≤ ·) w w2) := Lib.hid (by rw [hw2]; exact ((Only.refl _ w).alloc (fun _ h => h) _).alloc (fun _ h => h) _)
  have HNE : Hid (b3 ≠ b4) := Lib.hid (by omega)
  have HB4G : Hid (w.heap.size ≤ b4) := Lib.hid (by omega)
  have HHB : Hid (Calls Tryz.prog 43 #[.pointer (some ⟨pb, 0, none⟩), .func (.func 48) #[] #[.pointer (some ⟨b3, 0, none⟩)]] w2 (HeldSays w2 fun p => ∃ u, decide (u ≠ t) = true ∧ S.H u p)) := Lib.hid (heldBy_State1 w2 pb mb n S ⟨_, _, _, h.later HOW.out⟩ hok (fun u => decide (u ≠ t)) b3 (fun W x v hW => State1_c W b3 x t v (by have := (HB3.out.later hW).cell 0; simpa using this)))
  have KC : Hid (∀ W, Only (w.heap.size ≤ ·) w W → Blk W b3 3 [.int .i64 t] → W.cell? ⟨pb, 2, none⟩ = some (.slice A nn cc) ∧ W.cell? ⟨pb, 3, none⟩ = some (.map (some mb)) ∧ W.cell? ⟨b3, 0, none⟩ = some (.int .i64 t) ∧ (Instr.lookup 66 (.map (some mb)) (.int .i64 t) false).run Tryz.prog W = .ok vl W) := Lib.hid fun W hW hb => ⟨(HAT.out.later hW).cells.2.2.1, (HAT.out.later hW).cells.2.2.2, by rw [hb.cell]; rfl, HLK.out W hW⟩
  have HEQ : Hid (w2 = (w.alloc (.cells #[.int .i64 t] 3)).alloc (.cells #[.slice none 0 0, .slice none 0 0] 35) ∧ b3 = w.heap.size ∧ b4 = w.heap.size + 1) := Lib.hid ⟨hw2, hb3, hb4⟩
  clear h hok hlk hrl hol hlr hw2 hb3 hb4
  go_enter Tryz.func24, Tryz.ntmps24
  go_wp2_with (fail)
  rw [← HEQ.out.1, ← HEQ.out.2.2, ← HEQ.out.2.1]
  refine HHB.out.mono ?_
  rintro ee w3 ⟨v1, n1, l1, rfl, hv1, hl1, ho⟩
  have HV1 := Lib.hid (hv1.row.later (Only.refl _ w3).drew)
  have HL1 := Lib.hid hl1
  have HLI : Hid (∀ y ∈ l1, I64 y) := Lib.hid (i64_of hl1.1)
  replace HB3 := Lib.hid (HB3.out.later ho).drew
  replace HB4 := Lib.hid (HB4.out.later ho).drew
  replace HOW := Lib.hid (on_new HOW.out ho).drew
  have HOZ : Hid (Only (w3.drew.heap.size ≤ ·) w3.drew w3.drew) := Lib.hid (Only.refl _ _)
  clear hv1 hl1 ho
  go_upto_region 2 with (fail)
  refine wp_region_list (B := [false, false, false, false, false, false, false, false, false, false, false, false, false, false, false]) (S := (fun W => W.cell? ⟨pb, 2, none⟩ = some (.slice A nn cc) ∧ W.cell? ⟨pb, 3, none⟩ = some (.map (some mb)) ∧ W.cell? ⟨b3, 0, none⟩ = some (.int .i64 t) ∧ (Instr.lookup 66 (.map (some mb)) (.int .i64 t) false).run Tryz.prog W = .ok vl W)) (by kernel_rfl) (by kernel_rfl) (by kernel_rfl) (KC.out _ HOW.out HB3.out) (fun hsel hHeld => ?_)
  generalize hwz : World.drew _ = wz at HV1 HOW HOZ HB3 HB4 hHeld ⊢
  clear hwz
  refine oneA 0 9 hsel (h := ?_)
  simp only [Act.put, List.setIfInBounds_toArray, List.set_cons_zero, List.set_cons_succ]
  refine oneA 1 10 hsel (h := ?_)
  simp only [Act.put, List.setIfInBounds_toArray, List.set_cons_zero, List.set_cons_succ]
  refine oneA 2 11 hsel (h := ?_)
  simp only [Act.put, List.setIfInBounds_toArray, List.set_cons_zero, List.set_cons_succ]
  refine oneA 3 12 hsel (h := ?_)
  simp only [Act.put, List.setIfInBounds_toArray, List.set_cons_zero, List.set_cons_succ]
  refine oneA 4 13 hsel (h := ?_)
  simp only [Act.put, List.setIfInBounds_toArray, List.set_cons_zero, List.set_cons_succ]
  refine oneA 6 15 hsel (h := ?_)
  simp only [Act.put, List.setIfInBounds_toArray, List.set_cons_zero, List.set_cons_succ]
  refine oneA 7 16 hsel (h := ?_)
  simp only [Act.put, List.setIfInBounds_toArray, List.set_cons_zero, List.set_cons_succ]
  refine oneA 8 17 hsel (h := ?_)
  simp only [Act.put, List.setIfInBounds_toArray, List.set_cons_zero, List.set_cons_succ]
  refine oneA 9 18 hsel (h := ?_)
  simp only [Act.put, List.setIfInBounds_toArray, List.set_cons_zero, List.set_cons_succ]
  refine oneA 10 19 hsel (h := ?_)
  simp only [Act.put, List.setIfInBounds_toArray, List.set_cons_zero, List.set_cons_succ]
  refine oneA 11 20 hsel (h := ?_)
  simp only [Act.put, List.setIfInBounds_toArray, List.set_cons_zero, List.set_cons_succ]
  refine wpAnyL_ready (rs := [5]) (by kernel_rfl) (by kernel_rfl) (by simp) ?_
  refine AllReadyL.cons (o := ?_) ?_ (fun K hK => ?_) AllReadyL.nil
  case refine_2 => (simp only [List.getElem?_cons_succ, List.getElem?_cons_zero]; rfl)
  go_simp
  (go_at_call 41; (with_reducible refine (Union_c wz (.slice A nn cc) v1 fl l1 (HRF.out.later HOW.out) (HV1.out.later HOZ.out) HFI.out HLI.out).mono ?_); rintro ee w5 ⟨v5, n5, l5, rfl, hv5, hl5, ho⟩; obtain ⟨A5, c5, rfl⟩ := hv5.slice; have HV5 := Lib.hid hv5; have HL5 := Lib.hid hl5; have HO5 := Lib.hid (on_new HOW.out ho); have HB35 := Lib.hid (HB3.out.later ho); have HB45 := Lib.hid (HB4.out.later ho); have HZ5 := Lib.hid ho; clear hv5 hl5 ho)
  go_wp2_with (fail)
  clear hHeld
  refine hK.out _ _ (KC.out _ HO5.out HB35.out) (fun hHeld => ?_)
  clear hK K
  try simp only [Act.put, List.setIfInBounds_toArray, List.set_cons_zero, List.set_cons_succ]
  refine wpAnyL_ready (rs := [12]) (by kernel_rfl) (by kernel_rfl) (by simp) ?_
  refine AllReadyL.cons (o := ?_) ?_ (fun K hK => ?_) AllReadyL.nil
  case refine_2 => (simp only [List.getElem?_cons_succ, List.getElem?_cons_zero]; rfl)
  go_simp
  (go_at_call 27; (with_reducible refine (Clone_c w5 vl ll (HRL.out.later HO5.out) HLN.out).mono ?_); rintro ee w8 ⟨v8, n8, rfl, hv8, ho⟩; obtain ⟨A8, c8, rfl⟩ := hv8.slice; have HV8 := Lib.hid hv8; have HV58 := Lib.hid (HV5.out.row.later ho); have HO8 := Lib.hid (on_new HO5.out ho); have HB38 := Lib.hid (HB35.out.later ho); have HB48 := Lib.hid (HB45.out.later ho); have q0 := HB48.out.cell 0; have q1 := HB48.out.cell 1; simp at q0 q1; have g0 := HB48.out.frozen 0; have g1 := HB48.out.frozen 1; have HZ8 := Lib.hid (on_new HZ5.out ho); clear hv8 ho)
  go_wp2_with (fail)
  clear hHeld
  refine hK.out _ _ (KC.out _ HO8.out HB38.out) (fun hHeld => ?_)
  clear hK K
  try simp only [Act.put, List.setIfInBounds_toArray, List.set_cons_zero, List.set_cons_succ]
  refine oneA 13 22 hsel (h := ?_)
  simp only [Act.put, List.setIfInBounds_toArray, List.set_cons_zero, List.set_cons_succ]
  refine wpAnyL_ready (rs := [14]) (by kernel_rfl) (by kernel_rfl) (by simp) ?_
  refine AllReadyL.cons (o := ?_) ?_ (fun K hK => ?_) AllReadyL.nil
  case refine_2 => (simp only [List.getElem?_cons_succ, List.getElem?_cons_zero]; rfl)
  have HB39 : Hid (Blk ((w8.setCell ⟨b4, 0, none⟩ (.slice A5 n5 c5)).setCell ⟨b4, 1, none⟩ (.slice A8 n8 c8)) b3 3 [.int .i64 t]) := Lib.hid ((HB38.out.far (p := ⟨b4, 0, none⟩) HNE.out _).far (p := ⟨b4, 1, none⟩) HNE.out _)
  have HO9 : Hid (Only (w.heap.size ≤ ·) w ((w8.setCell ⟨b4, 0, none⟩ (.slice A5 n5 c5)).setCell ⟨b4, 1, none⟩ (.slice A8 n8 c8))) := Lib.hid ((HO8.out.setCell (p := ⟨b4, 0, none⟩) HB4G.out _).setCell (p := ⟨b4, 1, none⟩) HB4G.out _)
  go_simp
  clear hHeld
  refine hK.out _ _ (KC.out _ HO9.out HB39.out) (fun hHeld => ?_)
  clear hK K
  try simp only [Act.put, List.setIfInBounds_toArray, List.set_cons_zero, List.set_cons_succ]
  refine wpAnyL_done (by kernel_rfl) (by kernel_rfl) ?_ _
  clear hsel hHeld
  have HB49 : Hid (Blk ((w8.setCell ⟨b4, 0, none⟩ (.slice A5 n5 c5)).setCell ⟨b4, 1, none⟩ (.slice A8 n8 c8)) b4 35 [.slice A5 n5 c5, .slice A8 n8 c8]) := Lib.hid ((HB48.out.set_ 0 _).set_ 1 _)
  have HO4 : Hid (Only (fun k => k = b4) w8 ((w8.setCell ⟨b4, 0, none⟩ (.slice A5 n5 c5)).setCell ⟨b4, 1, none⟩ (.slice A8 n8 c8))) := Lib.hid (((Only.refl (fun k => k = b4) w8).setCell (p := ⟨b4, 0, none⟩) rfl _).setCell (p := ⟨b4, 1, none⟩) rfl _)
  have HR5 := Lib.hid (HV58.out.past HO4.out (fun k hk => .inr (.inl (hk ▸ own_off HV5.out HB4.out.lt))))
  have HR8 := Lib.hid (HV8.out.row.past HO4.out (fun k hk => .inr (.inl (hk ▸ own_off HV8.out HB45.out.lt))))
  generalize hw9 : World.setCell (World.setCell w8 ⟨b4, 0, none⟩ (.slice A5 n5 c5)) ⟨b4, 1, none⟩ (.slice A8 n8 c8) = w9 at HB49 HR5 HR8 HO9 ⊢
  clear hw9 q0 q1 g0 g1
  go_wp2_with (fail)
  exact bodyPost_ret (v := .agg #[.slice A5 n5 c5, .slice A8 n8 c8]) (results_cell rfl rfl (load_state HB49.out)) rfl ⟨A5, n5, c5, A8, n8, c8, l5, ll, rfl, HR5.out, HR8.out, HL5.out.congr fun p => by rw [mem_row HFR.out p, mem_row HL1.out p]; simp, HLR.out, HO9.out⟩

/-- A copy. -/
def CopySays (w : World) (pb mb n : Nat) (S : PS) (e : Ending) (w' : World) : Prop := ∃ qb qm, e = .returned (.pointer (some ⟨qb, 0, none⟩)) ∧ w.heap.size ≤ qb ∧ w.heap.size ≤ qm ∧ (∀ W, Touch pb mb w' W → At W qb qm n S) ∧ Only (w.heap.size ≤ ·) w w'
theorem Copy_m (w : World) (mb n : Nat) (D : DataW Value) (h : MapB w mb n D) : Calls Tryz.prog 45 #[.map (some mb)] w fun e w' => e = .returned (.map (some w.heap.size)) ∧ MapB w' w.heap.size n D ∧ Only (w.heap.size ≤ ·) w w' :=
  (AnyW.maps_Clone_owns Tryz.layMc 3 Rv mb n D w h).mono fun e w' ⟨h1, h2, h3, h4⟩ => ⟨h1, h2, Only.below h4⟩
set_option maxRecDepth 100000 in
set_option maxHeartbeats 6400000 in
theorem Copy_c (w : World) (pb mb n : Nat) (S : PS) (h : At w pb mb n S) : Calls Tryz.prog 18 #[.pointer (some ⟨pb, 0, none⟩)] w (CopySays w pb mb n S) := by
  obtain ⟨fv, fl, D, h⟩ := h
  have HAT := Lib.hid h
  obtain ⟨A, nn, cc, rfl⟩ := h.2.1.form
  obtain ⟨c0, c1, c2, c3⟩ := h.cells
  obtain ⟨pg, hpg⟩ : ∃ pg, pg = S.pages := ⟨_, rfl⟩
  obtain ⟨lim, hlim⟩ : ∃ lim, lim = S.limit := ⟨_, rfl⟩
  rw [← hpg] at c0
  rw [← hlim] at c1
  have HPG : Hid (pg = S.pages ∧ lim = S.limit) := Lib.hid ⟨hpg, hlim⟩
  have HO2 : Hid (Only (w.heap.size ≤ ·) w (w.alloc (.cells #[.int .i64 pg, .int .i64 lim, .slice A nn cc, .map (some mb)] 68))) := Lib.hid ((Only.refl _ w).alloc (fun _ h => h) _)
  have HB2 : Hid (Blk (w.alloc (.cells #[.int .i64 pg, .int .i64 lim, .slice A nn cc, .map (some mb)] 68)) w.heap.size 68 [.int .i64 pg, .int .i64 lim, .slice A nn cc, .map (some mb)]) := Lib.hid (Blk.new w _ [.int .i64 pg, .int .i64 lim, .slice A nn cc, .map (some mb)])
  have hat2 := HAT.out.later HO2.out
  have d3 := hat2.cells.2.2.2
  have HM2 : Hid (MapB (w.alloc (.cells #[.int .i64 pg, .int .i64 lim, .slice A nn cc, .map (some mb)] 68)) mb n D) := Lib.hid hat2.2.2.2.2.1
  clear h hpg hlim hat2
  go_enter Tryz.func18, Tryz.ntmps18
  go_wp2_with (go_at_call 45; (with_reducible refine (Copy_m _ mb n D HM2.out).mono ?_); rintro ee w3 ⟨rfl, hm, ho⟩; have HM3 := Lib.hid hm; have HB3 := Lib.hid (HB2.out.later ho); have q3 := (HB2.out.later ho).cell 3; simp at q3; have g3 := (HB2.out.later ho).frozen 3; have HO3 := Lib.hid (on_new HO2.out ho); clear hm ho)
  go_ret
  have hqm : w.heap.size + 1 = (w.alloc (.cells #[.int .i64 pg, .int .i64 lim, .slice A nn cc, .map (some mb)] 68)).heap.size := by simp
  have hO4 : Only (fun k => k = w.heap.size) w3 (w3.setCell ⟨w.heap.size, 3, none⟩ (.map (some (w.heap.size + 1)))) := (Only.refl (fun k => k = w.heap.size) w3).setCell (p := ⟨w.heap.size, 3, none⟩) rfl _
  have hO : Only (w.heap.size ≤ ·) w (w3.setCell ⟨w.heap.size, 3, none⟩ (.map (some (w.heap.size + 1)))) := HO3.out.trans (Only.mono hO4 fun k hk => Nat.le_of_eq hk.symm)
  have hm : MapB (w3.setCell ⟨w.heap.size, 3, none⟩ (.map (some (w.heap.size + 1)))) (w.heap.size + 1) n D := by
    rw [hqm]
    exact HM3.out.on (by rw [← hqm]; exact hO4) (by rw [← hqm]; omega)
  have hb4 : Blk (w3.setCell ⟨w.heap.size, 3, none⟩ (.map (some (w.heap.size + 1)))) w.heap.size 68 [.int .i64 S.pages, .int .i64 S.limit, .slice A nn cc, .map (some (w.heap.size + 1))] := by
    have := HB3.out.set_ 3 (.map (some (w.heap.size + 1)))
    rw [← HPG.out.1, ← HPG.out.2]
    exact this
  have hpl := HAT.out.1.lt
  have hml := HAT.out.2.2.2.2.1.lt
  have hmap4 : ∃ es c, (w3.setCell ⟨w.heap.size, 3, none⟩ (.map (some (w.heap.size + 1)))).heap[mb]? = some (.map es c) := (HAT.out.2.2.2.2.1.on hO (by omega)).block
  refine ⟨_, _, rfl, Nat.le_refl _, Nat.le_succ _, fun W hW => ⟨.slice A nn cc, fl, D, hb4.only hW (fun h => ?_), (HAT.out.2.1.later hO).touch HAT.out.2.2.1 hmap4 hW, HAT.out.2.1.off_new (Nat.le_refl _), HAT.out.2.2.2.1, hm.on hW (fun h => ?_), fun t => ?_⟩, hO⟩
  · have := hb4.lt
    omega
  · have := hm.lt
    omega
  · obtain ⟨v, l, e1, e2, e3, e4⟩ := HAT.out.2.2.2.2.2 t
    exact ⟨v, l, e1, (e2.later hO).touch e3 hmap4 hW, e2.off_new (Nat.le_refl _), e4⟩
end Go.Proofs.YtmadlckladohbaaGreat
