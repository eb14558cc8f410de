/-
  RunBack: the walk.
-/
import Derived.Test.YtjnaejogclmooaaRcnt
set_option linter.unusedVariables false
namespace Go.Proofs.Ytjnaejogclmooaa
open Go.RowKit

theorem right_isRow {u : List R} {S : Int → Prop} (h : IsRow u S) : right u = true := h.1
/-- Add of pages that are not there; Add that can't. -/
theorem Add_yes (W : World) (v : Value) (l : List R) (x : R) (h : Row W v l) (hr : ∀ y ∈ l, I64 y) (hm : may x = true) (hd : ∀ p, Mem l p → ¬ within x p) :
    Calls Try.prog 25 #[v, .agg #[.int .i64 x.1, .int .i64 x.2]] W fun e w' => (∃ v u, e = .returned (.tuple #[v, .bool true]) ∧ Row w' v u ∧ IsRow u (fun p => Mem l p ∨ within x p)) ∧ Only (W.heap.size ≤ ·) W w' :=
  (Add_c W v l x h hr (may_i64 hm)).mono fun e w' ⟨v, n, u, b, h1, h2, h3, h4, h5⟩ => by
    obtain rfl : b = true := h3.2 ⟨hm, hd⟩
    exact ⟨⟨v, u, h1, h2.row, h4.congr fun p => ⟨fun h => h.elim .inl fun h => .inr h.2, fun h => h.elim .inl fun h => .inr ⟨rfl, h⟩⟩⟩, h5⟩
theorem Add_no (W : World) (v : Value) (l : List R) (x : R) (h : Row W v l) (hr : ∀ y ∈ l, I64 y) (hx : I64 x) (hn : ¬ (may x = true ∧ ∀ p, Mem l p → ¬ within x p)) :
    Calls Try.prog 25 #[v, .agg #[.int .i64 x.1, .int .i64 x.2]] W fun e w' => (∃ v, e = .returned (.tuple #[v, .bool false]) ∧ Row w' v (known l)) ∧ Only (W.heap.size ≤ ·) W w' :=
  (Add_c W v l x h hr hx).mono fun e w' ⟨v, n, u, b, h1, h2, h3, h4, h5⟩ => by
    cases b
    · refine ⟨⟨v, h1, ?_⟩, h5⟩
      have : u = known l := h4.eq ((known_isRow l).congr fun p => ⟨.inl, fun h => h.elim id fun h => by cases h.1⟩)
      rw [← this]; exact h2.row
    · exact absurd (h3.1 rfl) hn
/-- Drop of pages that are all there; Drop that can't. -/
theorem Drop_yes (W : World) (v : Value) (l : List R) (x : R) (h : Row W v l) (hr : ∀ y ∈ l, I64 y) (hm : may x = true) (hd : ∀ p, within x p → Mem l p) :
    Calls Try.prog 26 #[v, .agg #[.int .i64 x.1, .int .i64 x.2]] W fun e w' => (∃ v u, e = .returned (.tuple #[v, .bool true]) ∧ Row w' v u ∧ IsRow u (fun p => Mem l p ∧ ¬ within x p)) ∧ Only (W.heap.size ≤ ·) W w' :=
  (Drop_c W v l x h hr (may_i64 hm)).mono fun e w' ⟨v, n, u, b, h1, h2, h3, h4, h5⟩ => by
    obtain rfl : b = true := h3.2 ⟨hm, (all_whole (known_right l) hm).1 hd⟩
    exact ⟨⟨v, u, h1, h2.row, h4.congr fun p => ⟨fun h => ⟨h.1, fun hh => h.2 ⟨rfl, hh⟩⟩, fun h => ⟨h.1, fun hh => h.2 hh.2⟩⟩⟩, h5⟩
theorem Drop_no (W : World) (v : Value) (l : List R) (x : R) (h : Row W v l) (hr : ∀ y ∈ l, I64 y) (hx : I64 x) (hn : ¬ (may x = true ∧ ∀ p, within x p → Mem l p)) :
    Calls Try.prog 26 #[v, .agg #[.int .i64 x.1, .int .i64 x.2]] W fun e w' => (∃ v, e = .returned (.tuple #[v, .bool false]) ∧ Row w' v (known l)) ∧ Only (W.heap.size ≤ ·) W w' :=
  (Drop_c W v l x h hr hx).mono fun e w' ⟨v, n, u, b, h1, h2, h3, h4, h5⟩ => by
    cases b
    · refine ⟨⟨v, h1, ?_⟩, h5⟩
      have : u = known l := h4.eq ((known_isRow l).congr fun p => ⟨fun h => ⟨h, fun hh => by cases hh.1⟩, fun h => h.1⟩)
      rw [← this]; exact h2.row
    · obtain ⟨hm, hw⟩ := h3.1 rfl
      exact absurd ⟨hm, (all_whole (known_right l) hm).2 hw⟩ hn

set_option maxRecDepth 100000 in
set_option maxHeartbeats 12800000 in
theorem back_walk (w : World) (v : Value) (l : List R) (x : R) (h : Row w v l) (hr : ∀ y ∈ l, I64 y) (hx : I64 x) :
    Calls Try.prog 7 #[v, .agg #[.int .i64 x.1, .int .i64 x.2]] w (Told w (.bool true)) := by
  obtain ⟨bx, hbx⟩ : ∃ bx, bx = w.heap.size := ⟨_, rfl⟩
  obtain ⟨wx, hwx⟩ : ∃ wx, wx = w.alloc (.cells #[.int .i64 x.1, .int .i64 x.2] 40) := ⟨_, rfl⟩
  have HC : Hid (Blk wx bx 40 [.int .i64 x.1, .int .i64 x.2]) := by rw [hwx, hbx]; exact Blk.new w _ _
  have HO : Hid (Only (w.heap.size ≤ ·) w wx) := by rw [hwx]; exact (Only.refl _ w).alloc (fun _ h => h) _
  have HWX : Hid (wx = w.alloc (.cells #[.int .i64 x.1, .int .i64 x.2] 40) ∧ bx = w.heap.size) := ⟨hwx, hbx⟩
  have HA : Hid (Row wx v l) := h.later HO.out
  have HAi := Lib.hid hr
  obtain ⟨sa, hsa⟩ : ∃ s, s = short l := ⟨_, rfl⟩
  obtain ⟨mx, hmx⟩ : ∃ m, m = may x := ⟨_, rfl⟩
  have HSA := Lib.hid hsa
  have HMX := Lib.hid hmx
  have HXI := Lib.hid hx
  have HMC : Hid (∀ W : World, Calls Try.prog 24 #[.agg #[.int .i64 x.1, .int .i64 x.2]] W (Told W (.bool mx))) := fun W => by rw [hmx]; exact May_c W x.1 x.2
  clear h hr hx hwx hbx hsa hmx
  obtain ⟨x1, x2⟩ := x
  simp only at HC HWX HMC
  have hq1 := HC.out.cell 0
  have hq2 := HC.out.cell 1
  simp at hq1 hq2
  cases sa
  · go_enter Try.func7, Try.ntmps7
    go_wp2_with (fail)
    rw [← HWX.out.1, ← HWX.out.2]
    go_wp2_with (first
      | (go_at_call 10; (with_reducible refine (few_b _ _ _ _ HA.out HSA.out).mono ?_); rintro e w1 ⟨rfl, ho⟩; (try replace HA := Lib.hid (HA.out.later ho)); (try replace HC := Lib.hid (HC.out.later ho)); (try (have hq1 := HC.out.cell 0; have hq2 := HC.out.cell 1; simp at hq1 hq2)); replace HO := Lib.hid (on_new HO.out ho); clear ho)
      | (go_at_call 11; (with_reducible refine (alive_c _).mono ?_); rintro e w2 ⟨rfl, ho⟩; (try replace HA := Lib.hid (HA.out.later ho)); (try replace HC := Lib.hid (HC.out.later ho)); (try (have hq1 := HC.out.cell 0; have hq2 := HC.out.cell 1; simp at hq1 hq2)); replace HO := Lib.hid (on_new HO.out ho); clear ho))
    go_ret
    exact ⟨rfl, HO.out⟩
  have HAlen : Hid (l.length ≤ 1000000) := Nat.le_trans (short_iff HSA.out.symm).1 (by decide)
  by_cases hbig : mx = true ∧ 600 < x1 + x2
  · obtain ⟨rfl, hbig⟩ := hbig
    have hmm := (may_iff (x1, x2)).1 HMX.out.symm
    simp only at hmm
    go_enter Try.func7, Try.ntmps7
    go_wp2_with (fail)
    rw [← HWX.out.1, ← HWX.out.2]
    go_wp2_with (first
      | (go_at_call 10; (with_reducible refine (few_b _ _ _ _ HA.out HSA.out).mono ?_); rintro e w1 ⟨rfl, ho⟩; (try replace HA := Lib.hid (HA.out.later ho)); (try replace HC := Lib.hid (HC.out.later ho)); (try (have hq1 := HC.out.cell 0; have hq2 := HC.out.cell 1; simp at hq1 hq2)); replace HO := Lib.hid (on_new HO.out ho); clear ho)
      | (go_at_call 24; (with_reducible refine (HMC.out _).mono ?_); rintro e w2 ⟨rfl, ho⟩; (try replace HA := Lib.hid (HA.out.later ho)); (try replace HC := Lib.hid (HC.out.later ho)); (try (have hq1 := HC.out.cell 0; have hq2 := HC.out.cell 1; simp at hq1 hq2)); replace HO := Lib.hid (on_new HO.out ho); clear ho)
      | (go_at_call 11; (with_reducible refine (alive_c _).mono ?_); rintro e w3 ⟨rfl, ho⟩; (try replace HA := Lib.hid (HA.out.later ho)); (try replace HC := Lib.hid (HC.out.later ho)); (try (have hq1 := HC.out.cell 0; have hq2 := HC.out.cell 1; simp at hq1 hq2)); replace HO := Lib.hid (on_new HO.out ho); clear ho))
    go_ret
    exact ⟨rfl, HO.out⟩
  by_cases hcan : may (x1, x2) = true ∧ ∀ p, Mem l p → ¬ within (x1, x2) p
  · obtain ⟨hm, hdis⟩ := hcan
    obtain rfl : mx = true := HMX.out.trans hm
    have hmm := (may_iff (x1, x2)).1 hm
    have hnb : ¬ 600 < x1 + x2 := fun hh => hbig ⟨rfl, hh⟩
    simp only at hmm
    have HAD : Hid (∀ W v, Row W v l → Calls Try.prog 25 #[v, .agg #[.int .i64 x1, .int .i64 x2]] W fun e w' => (∃ v u, e = .returned (.tuple #[v, .bool true]) ∧ Row w' v u ∧ IsRow u (fun p => Mem l p ∨ within (x1, x2) p)) ∧ Only (W.heap.size ≤ ·) W w') := fun W v hv => Add_yes W v l (x1, x2) hv HAi.out hm hdis
    have HDR : Hid (∀ W v u, Row W v u → IsRow u (fun p => Mem l p ∨ within (x1, x2) p) → Calls Try.prog 26 #[v, .agg #[.int .i64 x1, .int .i64 x2]] W fun e w' => (∃ v t, e = .returned (.tuple #[v, .bool true]) ∧ Row w' v t ∧ IsRow t (Mem l)) ∧ Only (W.heap.size ≤ ·) W w') := fun W v u hv hu =>
      (Drop_yes W v u (x1, x2) hv (i64_of hu.1) hm (fun p hp => (mem_isRow hu p).2 (.inr hp))).mono fun e w' ⟨⟨v, t, h1, h2, h3⟩, h4⟩ => ⟨⟨v, t, h1, h2, h3.congr fun p => by
        rw [mem_isRow hu]
        exact ⟨fun h => h.1.elim id fun hh => absurd hh h.2, fun h => ⟨.inl h, hdis p h⟩⟩⟩, h4⟩
    have HSE : Hid (∀ u, IsRow u (Mem l) → u = runsOf (setOf l) 600) := fun u hu => runs_eq (fun q _ => setOf_iff l q) (fun p hp => mem_range HSA.out.symm hp) hu
    have HR1 : Hid (right [(x1, x2)] = true) := single_right hm
    have HMT : Hid (∀ W v u t, Row W v t → Row W u [(x1, x2)] → IsRow t (Mem l) → Calls Try.prog 28 #[v, u] W (Told W (.bool false))) := fun W v u t hv hu ht =>
      Meet_b W v u t [(x1, x2)] false hv hu (i64_of ht.1) (i64_of HR1.out) ⟨fun h => (by cases h), fun ⟨p, h1, h2⟩ => absurd ((single_inn (x1, x2) p).1 ((mem_of HR1.out p).1 h2)) (hdis p ((mem_isRow ht p).1 h1))⟩
    have HCN : Hid (∀ u t, IsRow u (fun p => Mem l p ∨ within (x1, x2) p) → IsRow t (Mem l) → cnt (known u) = cnt (known t) + x2 ∧ 0 ≤ cnt (known t) ∧ cnt (known t) ≤ 32768) := fun u t hu ht => by
      rw [known_of hu.1, known_of ht.1]
      refine ⟨cnt_apart hu.1 ht.1 hm (fun p => (hu.2 p).trans (by rw [ht.2 p])) (fun p hp => hdis p ((ht.2 p).1 hp)), ?_⟩
      have := card_le t
      rw [cnt_card ht.1]
      omega
    clear hbig hdis hm
    go_enter Try.func7, Try.ntmps7
    go_wp2_with (fail)
    rw [← HWX.out.1, ← HWX.out.2]
    go_wp2_with (first
      | (go_at_call 10; (with_reducible refine (few_b _ _ _ _ HA.out HSA.out).mono ?_); rintro e w1 ⟨rfl, ho⟩; (try replace HA := Lib.hid (HA.out.later ho)); (try replace HC := Lib.hid (HC.out.later ho)); (try (have hq1 := HC.out.cell 0; have hq2 := HC.out.cell 1; simp at hq1 hq2)); replace HO := Lib.hid (on_new HO.out ho); clear ho)
      | (go_at_call 24; (with_reducible refine (HMC.out _).mono ?_); rintro e w2 ⟨rfl, ho⟩; (try replace HA := Lib.hid (HA.out.later ho)); (try replace HC := Lib.hid (HC.out.later ho)); (try (have hq1 := HC.out.cell 0; have hq2 := HC.out.cell 1; simp at hq1 hq2)); replace HO := Lib.hid (on_new HO.out ho); clear ho))
    have HKEEP : Hid (∀ W : World, Only (w2.heap.size ≤ ·) w2 W → W.cell? ⟨bx, 0, none⟩ = some (.int .i64 x1) ∧ W.cell? ⟨bx, 0 + 1, none⟩ = some (.int .i64 x2)) := fun W hW => ⟨(HC.out.later hW).cell 0, (HC.out.later hW).cell 1⟩
    have hO2 : Only (w2.heap.size ≤ ·) w2 w2.drew := (Only.refl _ w2).drew
    replace HA := Lib.hid (HA.out.later hO2)
    replace HC := Lib.hid (HC.out.later hO2)
    refine wp_region_held_drew (S := (fun w' => w'.cell? ⟨bx, 0, none⟩ = some (.int .i64 x1) ∧ w'.cell? ⟨bx, 0 + 1, none⟩ = some (.int .i64 x2))) (by kernel_rfl) (HKEEP.out _ hO2) (fun hHeld => ?_)
    refine take_one (i := 0) (d := 26) (oi := ?_) (v := ?_) ?_ (by kernel_rfl) (by kernel_rfl) (by kernel_rfl) (fun _ _ _ h => h) ?_ ?_ ?_ (by assumption) ?_
    case refine_3 => (simp only [List.getElem?_toArray, List.getElem?_cons_zero]; rfl)
    case refine_4 => rfl
    case refine_5 => rfl
    case refine_6 => (intro w' hSw; (try dsimp only at hSw); go_simp; (try with_reducible rfl))
    simp only [Act.put, List.setIfInBounds_toArray, List.set_cons_zero, List.set_cons_succ]
    refine take_one (i := 2) (d := 28) (oi := ?_) (v := ?_) ?_ (by kernel_rfl) (by kernel_rfl) (by kernel_rfl) (fun _ _ _ h => h) ?_ ?_ ?_ (by assumption) ?_
    case refine_3 => (simp only [List.getElem?_toArray, List.getElem?_cons_succ, List.getElem?_cons_zero]; rfl)
    case refine_4 => rfl
    case refine_5 => rfl
    case refine_6 => (intro w' hSw; (try dsimp only at hSw); go_simp; (try with_reducible rfl))
    simp only [Act.put, List.setIfInBounds_toArray, List.set_cons_zero, List.set_cons_succ]
    refine wpAnyH_ready (rs := [1]) (by kernel_rfl) (by simp) ?_
    refine AllReadyH.cons (o := ?_) ?_ (fun K hK => ?_) AllReadyH.nil
    case refine_2 => (simp only [List.getElem?_toArray, List.getElem?_cons_succ, List.getElem?_cons_zero]; rfl)
    go_simp
    (go_at_call 14; (with_reducible refine (of_v _ _ _ HA.out (by first | exact HAlen.out | decide)).mono ?_); rintro e w3 ⟨⟨vx, rfl, h⟩, ho⟩; (try replace HA := Lib.hid (HA.out.later ho)); (try replace HC := Lib.hid (HC.out.later ho)); (try replace HX := Lib.hid (HX.out.later ho)); (try replace HY := Lib.hid (HY.out.later ho)); (try (have hq1 := HC.out.cell 0; have hq2 := HC.out.cell 1; simp at hq1 hq2)); have HX := Lib.hid h; (try have HXlen := Lib.hid HAlen.out); (try have HXi := Lib.hid HAi.out); clear h; have hO3 : Only (w2.heap.size ≤ ·) w2 w3 := hO2.trans (ho.mono fun k h => Nat.le_trans hO2.size h); clear ho)
    go_wp2_with (fail)
    refine hK.out _ _ (HKEEP.out _ hO3) (fun hHeld => ?_)
    clear hK K
    try simp only [Act.put, List.setIfInBounds_toArray, List.set_cons_zero, List.set_cons_succ]
    refine wpAnyH_ready (rs := [3]) (by kernel_rfl) (by simp) ?_
    refine AllReadyH.cons (o := ?_) ?_ (fun K hK => ?_) AllReadyH.nil
    case refine_2 => (simp only [List.getElem?_toArray, List.getElem?_cons_succ, List.getElem?_cons_zero]; rfl)
    go_simp
    (go_at_call 25; (with_reducible refine (HAD.out _ _ HX.out).mono ?_); rintro e w4 ⟨⟨vy, ly, rfl, h, hu⟩, ho⟩; (try replace HA := Lib.hid (HA.out.later ho)); (try replace HC := Lib.hid (HC.out.later ho)); (try replace HX := Lib.hid (HX.out.later ho)); (try replace HY := Lib.hid (HY.out.later ho)); (try (have hq1 := HC.out.cell 0; have hq2 := HC.out.cell 1; simp at hq1 hq2)); have HY := Lib.hid h; have HYu := Lib.hid hu; have HYlen := Lib.hid (row_len hu); have HYi := Lib.hid (i64_of hu.1); clear hu; clear h; have hO4 : Only (w2.heap.size ≤ ·) w2 w4 := hO3.trans (ho.mono fun k h => Nat.le_trans hO3.size h); clear ho)
    go_wp2_with (fail)
    refine hK.out _ _ (HKEEP.out _ hO4) (fun hHeld => ?_)
    clear hK K
    try simp only [Act.put, List.setIfInBounds_toArray, List.set_cons_zero, List.set_cons_succ]
    refine take_one (i := 4) (d := 25) (oi := ?_) (v := ?_) ?_ (by kernel_rfl) (by kernel_rfl) (by kernel_rfl) (fun _ _ _ h => h) ?_ ?_ ?_ (by assumption) ?_
    case refine_3 => (simp only [List.getElem?_toArray, List.getElem?_cons_succ, List.getElem?_cons_zero]; rfl)
    case refine_4 => rfl
    case refine_5 => rfl
    case refine_6 => (intro w' hSw; (try dsimp only at hSw); go_simp; (try with_reducible rfl))
    simp only [Act.put, List.setIfInBounds_toArray, List.set_cons_zero, List.set_cons_succ]
    refine take_one (i := 5) (d := 30) (oi := ?_) (v := ?_) ?_ (by kernel_rfl) (by kernel_rfl) (by kernel_rfl) (fun _ _ _ h => h) ?_ ?_ ?_ (by assumption) ?_
    case refine_3 => (simp only [List.getElem?_toArray, List.getElem?_cons_succ, List.getElem?_cons_zero]; rfl)
    case refine_4 => rfl
    case refine_5 => rfl
    case refine_6 => (intro w' hSw; (try dsimp only at hSw); go_simp; (try with_reducible rfl))
    simp only [Act.put, List.setIfInBounds_toArray, List.set_cons_zero, List.set_cons_succ]
    refine take_one (i := 6) (d := 31) (oi := ?_) (v := ?_) ?_ (by kernel_rfl) (by kernel_rfl) (by kernel_rfl) (fun _ _ _ h => h) ?_ ?_ ?_ (by assumption) ?_
    case refine_3 => (simp only [List.getElem?_toArray, List.getElem?_cons_succ, List.getElem?_cons_zero]; rfl)
    case refine_4 => rfl
    case refine_5 => rfl
    case refine_6 => (intro w' hSw; (try dsimp only at hSw); go_simp; (try with_reducible rfl))
    simp only [Act.put, List.setIfInBounds_toArray, List.set_cons_zero, List.set_cons_succ]
    refine take_one (i := 7) (d := 5) (oi := ?_) (v := ?_) ?_ (by kernel_rfl) (by kernel_rfl) (by kernel_rfl) (fun _ _ _ h => h) ?_ ?_ ?_ (by assumption) ?_
    case refine_3 => (simp only [List.getElem?_toArray, List.getElem?_cons_succ, List.getElem?_cons_zero]; rfl)
    case refine_4 => rfl
    case refine_5 => rfl
    case refine_6 => (intro w' hSw; (try dsimp only at hSw); go_simp; (try with_reducible rfl))
    simp only [Act.put, List.setIfInBounds_toArray, List.set_cons_zero, List.set_cons_succ]
    refine take_one (i := 8) (d := 6) (oi := ?_) (v := ?_) ?_ (by kernel_rfl) (by kernel_rfl) (by kernel_rfl) (fun _ _ _ h => h) ?_ ?_ ?_ (by assumption) ?_
    case refine_3 => (simp only [List.getElem?_toArray, List.getElem?_cons_succ, List.getElem?_cons_zero]; rfl)
    case refine_4 => rfl
    case refine_5 => rfl
    case refine_6 => (intro w' hSw; (try dsimp only at hSw); go_simp; (try with_reducible rfl))
    simp only [Act.put, List.setIfInBounds_toArray, List.set_cons_zero, List.set_cons_succ]
    refine wpAnyH_done (by kernel_rfl) ?_ _
    replace HO := Lib.hid (on_new HO.out hO4)
    obtain ⟨hq3, hq4⟩ := HKEEP.out _ hO4
    clear hHeld hO2 hO3 hO4 HKEEP HX
    go_wp2_with (first
      | (go_at_call 26; (with_reducible refine (HDR.out _ _ _ HY.out HYu.out).mono ?_); rintro e wd ⟨⟨vd, ld, rfl, h, hu⟩, ho⟩; (try replace HA := Lib.hid (HA.out.later ho)); (try replace HC := Lib.hid (HC.out.later ho)); (try replace HY := Lib.hid (HY.out.later ho)); (try replace HD := Lib.hid (HD.out.later ho)); (try (have hq1 := HC.out.cell 0; have hq2 := HC.out.cell 1; simp at hq1 hq2)); have HD := Lib.hid h; have HDu := Lib.hid hu; have HDlen := Lib.hid (row_len hu); have HDi := Lib.hid (i64_of hu.1); clear hu; clear h; replace HO := Lib.hid (on_new HO.out ho); clear ho))
    have HKEEP : Hid (∀ W : World, Only (wd.heap.size ≤ ·) wd W → W.cell? ⟨bx, 0, none⟩ = some (.int .i64 x1) ∧ W.cell? ⟨bx, 0 + 1, none⟩ = some (.int .i64 x2)) := fun W hW => ⟨(HC.out.later hW).cell 0, (HC.out.later hW).cell 1⟩
    have hO5 : Only (wd.heap.size ≤ ·) wd wd.drew := (Only.refl _ wd).drew
    replace HA := Lib.hid (HA.out.later hO5)
    replace HY := Lib.hid (HY.out.later hO5)
    replace HD := Lib.hid (HD.out.later hO5)
    obtain ⟨cy, hcy⟩ : ∃ c, c = cnt (known ly) := ⟨_, rfl⟩
    obtain ⟨cd, hcd⟩ : ∃ c, c = cnt (known ld) := ⟨_, rfl⟩
    have hcn := HCN.out ly ld HYu.out HDu.out
    rw [← hcy, ← hcd] at hcn
    obtain ⟨hcn1, hcn2, hcn3⟩ := hcn
    have aw : IntKind.i64.wrap (cd + x2) = cy := by rw [IntWalk.i64_in _ (by omega)]; omega
    have HCY : Hid (∀ W, Row W vy ly → Calls Try.prog 17 #[vy] W (Told W (.int .i64 cy))) := fun W hW => by rw [hcy]; exact Count_c W vy ly hW HYi.out
    have HCD : Hid (∀ W, Row W vd ld → Calls Try.prog 17 #[vd] W (Told W (.int .i64 cd))) := fun W hW => by rw [hcd]; exact Count_c W vd ld hW HDi.out
    clear hcy hcd
    refine wp_region_held_drew (S := (fun w' => w'.cell? ⟨bx, 0, none⟩ = some (.int .i64 x1) ∧ w'.cell? ⟨bx, 0 + 1, none⟩ = some (.int .i64 x2))) (by kernel_rfl) (HKEEP.out _ hO5) (fun hHeld => ?_)
    refine wpAnyH_ready (rs := [0]) (by kernel_rfl) (by simp) ?_
    refine AllReadyH.cons (o := ?_) ?_ (fun K hK => ?_) AllReadyH.nil
    case refine_2 => (simp only [List.getElem?_toArray, List.getElem?_cons_zero]; rfl)
    go_simp
    (go_at_call 11; (with_reducible refine (alive_c _).mono ?_); rintro e w6 ⟨rfl, ho⟩; (try replace HA := Lib.hid (HA.out.later ho)); (try replace HY := Lib.hid (HY.out.later ho)); (try replace HD := Lib.hid (HD.out.later ho)); (try replace HP := Lib.hid (HP.out.later ho)); (try replace HS := Lib.hid (HS.out.later ho)); (try replace HQ := Lib.hid (HQ.out.later ho)); have hO6 : Only (wd.heap.size ≤ ·) wd w6 := hO5.trans (ho.mono fun k h => Nat.le_trans hO5.size h); clear ho)
    go_wp2_with (fail)
    refine hK.out _ _ (HKEEP.out _ hO6) (fun hHeld => ?_)
    clear hK K
    try simp only [Act.put, List.setIfInBounds_toArray, List.set_cons_zero, List.set_cons_succ]
    refine take_one (i := 1) (d := 42) (oi := ?_) (v := ?_) ?_ (by kernel_rfl) (by kernel_rfl) (by kernel_rfl) (fun _ _ _ h => h) ?_ ?_ ?_ (by assumption) ?_
    case refine_3 => (simp only [List.getElem?_toArray, List.getElem?_cons_succ, List.getElem?_cons_zero]; rfl)
    case refine_4 => rfl
    case refine_5 => rfl
    case refine_6 => (intro w' hSw; (try dsimp only at hSw); go_simp; (try with_reducible rfl))
    simp only [Act.put, List.setIfInBounds_toArray, List.set_cons_zero, List.set_cons_succ]
    refine take_one (i := 2) (d := 43) (oi := ?_) (v := ?_) ?_ (by kernel_rfl) (by kernel_rfl) (by kernel_rfl) (fun _ _ _ h => h) ?_ ?_ ?_ (by assumption) ?_
    case refine_3 => (simp only [List.getElem?_toArray, List.getElem?_cons_succ, List.getElem?_cons_zero]; rfl)
    case refine_4 => rfl
    case refine_5 => rfl
    case refine_6 => (intro w' hSw; (try dsimp only at hSw); go_simp; (try with_reducible rfl))
    simp only [Act.put, List.setIfInBounds_toArray, List.set_cons_zero, List.set_cons_succ]
    refine take_one (i := 3) (d := 44) (oi := ?_) (v := ?_) ?_ (by kernel_rfl) (by kernel_rfl) (by kernel_rfl) (fun _ _ _ h => h) ?_ ?_ ?_ (by assumption) ?_
    case refine_3 => (simp only [List.getElem?_toArray, List.getElem?_cons_succ, List.getElem?_cons_zero]; rfl)
    case refine_4 => rfl
    case refine_5 => rfl
    case refine_6 => (intro w' hSw; (try dsimp only at hSw); go_simp; (try with_reducible rfl))
    simp only [Act.put, List.setIfInBounds_toArray, List.set_cons_zero, List.set_cons_succ]
    refine take_one (i := 4) (d := 45) (oi := ?_) (v := ?_) ?_ (by kernel_rfl) (by kernel_rfl) (by kernel_rfl) (fun _ _ _ h => h) ?_ ?_ ?_ (by assumption) ?_
    case refine_3 => (simp only [List.getElem?_toArray, List.getElem?_cons_succ, List.getElem?_cons_zero]; rfl)
    case refine_4 => rfl
    case refine_5 => rfl
    case refine_6 => (intro w' hSw; (try dsimp only at hSw); go_simp; (try with_reducible rfl))
    simp only [Act.put, List.setIfInBounds_toArray, List.set_cons_zero, List.set_cons_succ]
    refine take_one (i := 5) (d := 46) (oi := ?_) (v := ?_) ?_ (by kernel_rfl) (by kernel_rfl) (by kernel_rfl) (fun _ _ _ h => h) ?_ ?_ ?_ (by assumption) ?_
    case refine_3 => (simp only [List.getElem?_toArray, List.getElem?_cons_succ, List.getElem?_cons_zero]; rfl)
    case refine_4 => rfl
    case refine_5 => rfl
    case refine_6 => (intro w' hSw; (try dsimp only at hSw); go_simp; (try with_reducible rfl))
    simp only [Act.put, List.setIfInBounds_toArray, List.set_cons_zero, List.set_cons_succ]
    refine take_one (i := 7) (d := 48) (oi := ?_) (v := ?_) ?_ (by kernel_rfl) (by kernel_rfl) (by kernel_rfl) (fun _ _ _ h => h) ?_ ?_ ?_ (by assumption) ?_
    case refine_3 => (simp only [List.getElem?_toArray, List.getElem?_cons_succ, List.getElem?_cons_zero]; rfl)
    case refine_4 => rfl
    case refine_5 => rfl
    case refine_6 => (intro w' hSw; (try dsimp only at hSw); go_simp; (try with_reducible rfl))
    simp only [Act.put, List.setIfInBounds_toArray, List.set_cons_zero, List.set_cons_succ]
    refine wpAnyH_ready (rs := [6]) (by kernel_rfl) (by simp) ?_
    refine AllReadyH.cons (o := ?_) ?_ (fun K hK => ?_) AllReadyH.nil
    case refine_2 => (simp only [List.getElem?_toArray, List.getElem?_cons_succ, List.getElem?_cons_zero]; rfl)
    go_simp
    (go_at_call 21; (with_reducible refine (old_v _ _ _ HD.out (by first | exact HDlen.out | decide)).mono ?_); rintro e w7 ⟨⟨vp, rfl, h⟩, ho⟩; (try replace HA := Lib.hid (HA.out.later ho)); (try replace HY := Lib.hid (HY.out.later ho)); (try replace HD := Lib.hid (HD.out.later ho)); (try replace HP := Lib.hid (HP.out.later ho)); (try replace HS := Lib.hid (HS.out.later ho)); (try replace HQ := Lib.hid (HQ.out.later ho)); have HP := Lib.hid h; (try have HPlen := Lib.hid HDlen.out); (try have HPi := Lib.hid HDi.out); clear h; have hO7 : Only (wd.heap.size ≤ ·) wd w7 := hO6.trans (ho.mono fun k h => Nat.le_trans hO6.size h); clear ho)
    go_wp2_with (fail)
    refine hK.out _ _ (HKEEP.out _ hO7) (fun hHeld => ?_)
    clear hK K
    try simp only [Act.put, List.setIfInBounds_toArray, List.set_cons_zero, List.set_cons_succ]
    refine wpAnyH_ready (rs := [8]) (by kernel_rfl) (by simp) ?_
    refine AllReadyH.cons (o := ?_) ?_ (fun K hK => ?_) AllReadyH.nil
    case refine_2 => (simp only [List.getElem?_toArray, List.getElem?_cons_succ, List.getElem?_cons_zero]; rfl)
    go_simp
    (go_at_call 12; (with_reducible refine (Set_v _ _ _ HA.out HAi.out).mono ?_); rintro e w8 ⟨gs, rfl, hg, h, ho⟩; (try replace HA := Lib.hid (HA.out.later ho)); (try replace HY := Lib.hid (HY.out.later ho)); (try replace HD := Lib.hid (HD.out.later ho)); (try replace HP := Lib.hid (HP.out.later ho)); (try replace HS := Lib.hid (HS.out.later ho)); (try replace HQ := Lib.hid (HQ.out.later ho)); have HS := Lib.hid h; have HSg := Lib.hid (Nat.le_trans (Nat.le_trans HO.out.size hO7.size) hg); have HSlt := Lib.hid (And.intro hg h.lt); clear hg; clear h; have hO8 : Only (wd.heap.size ≤ ·) wd w8 := hO7.trans (ho.mono fun k h => Nat.le_trans hO7.size h); clear ho)
    go_wp2_with (fail)
    refine hK.out _ _ (HKEEP.out _ hO8) (fun hHeld => ?_)
    clear hK K
    try simp only [Act.put, List.setIfInBounds_toArray, List.set_cons_zero, List.set_cons_succ]
    refine wpAnyH_ready (rs := [9]) (by kernel_rfl) (by simp) ?_
    refine AllReadyH.cons (o := ?_) ?_ (fun K hK => ?_) AllReadyH.nil
    case refine_2 => (simp only [List.getElem?_toArray, List.getElem?_cons_succ, List.getElem?_cons_zero]; rfl)
    go_simp
    (go_at_call 23; (with_reducible refine (Runs_v _ _ _ HS.out).mono ?_); rintro e w9 ⟨⟨vq, rfl, h⟩, ho⟩; (try replace HA := Lib.hid (HA.out.later ho)); (try replace HY := Lib.hid (HY.out.later ho)); (try replace HD := Lib.hid (HD.out.later ho)); (try replace HP := Lib.hid (HP.out.later ho)); (try replace HS := Lib.hid (HS.out.later ho)); (try replace HQ := Lib.hid (HQ.out.later ho)); have HQ := Lib.hid h; clear h; have hO9 : Only (wd.heap.size ≤ ·) wd w9 := hO8.trans (ho.mono fun k h => Nat.le_trans hO8.size h); clear ho)
    go_wp2_with (fail)
    refine hK.out _ _ (HKEEP.out _ hO9) (fun hHeld => ?_)
    clear hK K
    try simp only [Act.put, List.setIfInBounds_toArray, List.set_cons_zero, List.set_cons_succ]
    refine wpAnyH_ready (rs := [10]) (by kernel_rfl) (by simp) ?_
    refine AllReadyH.cons (o := ?_) ?_ (fun K hK => ?_) AllReadyH.nil
    case refine_2 => (simp only [List.getElem?_toArray, List.getElem?_cons_succ, List.getElem?_cons_zero]; rfl)
    go_simp
    (go_at_call 20; (with_reducible refine (Same_t _ _ _ _ _ HP.out HQ.out (HSE.out _ HDu.out)).mono ?_); rintro e w10 ⟨rfl, ho⟩; (try replace HA := Lib.hid (HA.out.later ho)); (try replace HY := Lib.hid (HY.out.later ho)); (try replace HD := Lib.hid (HD.out.later ho)); (try replace HP := Lib.hid (HP.out.later ho)); (try replace HS := Lib.hid (HS.out.later ho)); (try replace HQ := Lib.hid (HQ.out.later ho)); have hO10 : Only (wd.heap.size ≤ ·) wd w10 := hO9.trans (ho.mono fun k h => Nat.le_trans hO9.size h); clear ho)
    go_wp2_with (fail)
    refine hK.out _ _ (HKEEP.out _ hO10) (fun hHeld => ?_)
    clear hK K
    try simp only [Act.put, List.setIfInBounds_toArray, List.set_cons_zero, List.set_cons_succ]
    refine take_one (i := 11) (d := 52) (oi := ?_) (v := ?_) ?_ (by kernel_rfl) (by kernel_rfl) (by kernel_rfl) (fun _ _ _ h => h) ?_ ?_ ?_ (by assumption) ?_
    case refine_3 => (simp only [List.getElem?_toArray, List.getElem?_cons_succ, List.getElem?_cons_zero]; rfl)
    case refine_4 => rfl
    case refine_5 => rfl
    case refine_6 => (intro w' hSw; (try dsimp only at hSw); go_simp; (try with_reducible rfl))
    simp only [Act.put, List.setIfInBounds_toArray, List.set_cons_zero, List.set_cons_succ]
    refine take_one (i := 12) (d := 53) (oi := ?_) (v := ?_) ?_ (by kernel_rfl) (by kernel_rfl) (by kernel_rfl) (fun _ _ _ h => h) ?_ ?_ ?_ (by assumption) ?_
    case refine_3 => (simp only [List.getElem?_toArray, List.getElem?_cons_succ, List.getElem?_cons_zero]; rfl)
    case refine_4 => rfl
    case refine_5 => rfl
    case refine_6 => (intro w' hSw; (try dsimp only at hSw); go_simp; (try with_reducible rfl))
    simp only [Act.put, List.setIfInBounds_toArray, List.set_cons_zero, List.set_cons_succ]
    refine take_one (i := 13) (d := 54) (oi := ?_) (v := ?_) ?_ (by kernel_rfl) (by kernel_rfl) (by kernel_rfl) (fun _ _ _ h => h) ?_ ?_ ?_ (by assumption) ?_
    case refine_3 => (simp only [List.getElem?_toArray, List.getElem?_cons_succ, List.getElem?_cons_zero]; rfl)
    case refine_4 => rfl
    case refine_5 => rfl
    case refine_6 => (intro w' hSw; (try dsimp only at hSw); go_simp; (try with_reducible rfl))
    simp only [Act.put, List.setIfInBounds_toArray, List.set_cons_zero, List.set_cons_succ]
    refine take_one (i := 15) (d := 56) (oi := ?_) (v := ?_) ?_ (by kernel_rfl) (by kernel_rfl) (by kernel_rfl) (fun _ _ _ h => h) ?_ ?_ ?_ (by assumption) ?_
    case refine_3 => (simp only [List.getElem?_toArray, List.getElem?_cons_succ, List.getElem?_cons_zero]; rfl)
    case refine_4 => rfl
    case refine_5 => rfl
    case refine_6 => (intro w' hSw; (try dsimp only at hSw); go_simp; (try with_reducible rfl))
    simp only [Act.put, List.setIfInBounds_toArray, List.set_cons_zero, List.set_cons_succ]
    refine take_one (i := 17) (d := 58) (oi := ?_) (v := ?_) ?_ (by kernel_rfl) (by kernel_rfl) (by kernel_rfl) (fun _ _ _ h => h) ?_ ?_ ?_ (by assumption) ?_
    case refine_3 => (simp only [List.getElem?_toArray, List.getElem?_cons_succ, List.getElem?_cons_zero]; rfl)
    case refine_4 => rfl
    case refine_5 => rfl
    case refine_6 => (intro w' hSw; (try dsimp only at hSw); go_simp; (try with_reducible rfl))
    simp only [Act.put, List.setIfInBounds_toArray, List.set_cons_zero, List.set_cons_succ]
    refine take_one (i := 18) (d := 59) (oi := ?_) (v := ?_) ?_ (by kernel_rfl) (by kernel_rfl) (by kernel_rfl) (fun _ _ _ h => h) ?_ ?_ ?_ (by assumption) ?_
    case refine_3 => (simp only [List.getElem?_toArray, List.getElem?_cons_succ, List.getElem?_cons_zero]; rfl)
    case refine_4 => rfl
    case refine_5 => rfl
    case refine_6 => (intro w' hSw; (try dsimp only at hSw); go_simp; (try with_reducible rfl))
    simp only [Act.put, List.setIfInBounds_toArray, List.set_cons_zero, List.set_cons_succ]
    refine wpAnyH_ready (rs := [14]) (by kernel_rfl) (by simp) ?_
    refine AllReadyH.cons (o := ?_) ?_ (fun K hK => ?_) AllReadyH.nil
    case refine_2 => (simp only [List.getElem?_toArray, List.getElem?_cons_succ, List.getElem?_cons_zero]; rfl)
    go_simp
    (go_at_call 17; (with_reducible refine (HCY.out _ HY.out).mono ?_); rintro e w11 ⟨rfl, ho⟩; (try replace HA := Lib.hid (HA.out.later ho)); (try replace HY := Lib.hid (HY.out.later ho)); (try replace HD := Lib.hid (HD.out.later ho)); (try replace HP := Lib.hid (HP.out.later ho)); (try replace HS := Lib.hid (HS.out.later ho)); (try replace HQ := Lib.hid (HQ.out.later ho)); have hO11 : Only (wd.heap.size ≤ ·) wd w11 := hO10.trans (ho.mono fun k h => Nat.le_trans hO10.size h); clear ho)
    go_wp2_with (fail)
    refine hK.out _ _ (HKEEP.out _ hO11) (fun hHeld => ?_)
    clear hK K
    try simp only [Act.put, List.setIfInBounds_toArray, List.set_cons_zero, List.set_cons_succ]
    refine wpAnyH_ready (rs := [16]) (by kernel_rfl) (by simp) ?_
    refine AllReadyH.cons (o := ?_) ?_ (fun K hK => ?_) AllReadyH.nil
    case refine_2 => (simp only [List.getElem?_toArray, List.getElem?_cons_succ, List.getElem?_cons_zero]; rfl)
    go_simp
    (go_at_call 17; (with_reducible refine (HCD.out _ HD.out).mono ?_); rintro e w12 ⟨rfl, ho⟩; (try replace HA := Lib.hid (HA.out.later ho)); (try replace HY := Lib.hid (HY.out.later ho)); (try replace HD := Lib.hid (HD.out.later ho)); (try replace HP := Lib.hid (HP.out.later ho)); (try replace HS := Lib.hid (HS.out.later ho)); (try replace HQ := Lib.hid (HQ.out.later ho)); have hO12 : Only (wd.heap.size ≤ ·) wd w12 := hO11.trans (ho.mono fun k h => Nat.le_trans hO11.size h); clear ho)
    go_wp2_with (fail)
    refine hK.out _ _ (HKEEP.out _ hO12) (fun hHeld => ?_)
    clear hK K
    try simp only [Act.put, List.setIfInBounds_toArray, List.set_cons_zero, List.set_cons_succ]
    refine take_one (i := 19) (d := 60) (oi := ?_) (v := ?_) ?_ (by kernel_rfl) (by kernel_rfl) (by kernel_rfl) (fun _ _ _ h => h) ?_ ?_ ?_ (by assumption) ?_
    case refine_3 => (simp only [List.getElem?_toArray, List.getElem?_cons_succ, List.getElem?_cons_zero]; rfl)
    case refine_4 => rfl
    case refine_5 => rfl
    case refine_6 => (intro w' hSw; (try dsimp only at hSw); go_simp; (try with_reducible rfl))
    simp only [Act.put, List.setIfInBounds_toArray, List.set_cons_zero, List.set_cons_succ]
    refine take_one (i := 20) (d := 61) (oi := ?_) (v := ?_) ?_ (by kernel_rfl) (by kernel_rfl) (by kernel_rfl) (fun _ _ _ h => h) ?_ ?_ ?_ (by assumption) ?_
    case refine_3 => (simp only [List.getElem?_toArray, List.getElem?_cons_succ, List.getElem?_cons_zero]; rfl)
    case refine_4 => rfl
    case refine_5 => rfl
    case refine_6 => (intro w' hSw; (try dsimp only at hSw); go_simp; (try with_reducible rfl))
    simp only [Act.put, List.setIfInBounds_toArray, List.set_cons_zero, List.set_cons_succ]
    refine take_one (i := 21) (d := 62) (oi := ?_) (v := ?_) ?_ (by kernel_rfl) (by kernel_rfl) (by kernel_rfl) (fun _ _ _ h => h) ?_ ?_ ?_ (by assumption) ?_
    case refine_3 => (simp only [List.getElem?_toArray, List.getElem?_cons_succ, List.getElem?_cons_zero]; rfl)
    case refine_4 => rfl
    case refine_5 => rfl
    case refine_6 => (intro w' hSw; (try dsimp only at hSw); go_simp; (try with_reducible rfl))
    simp only [Act.put, List.setIfInBounds_toArray, List.set_cons_zero, List.set_cons_succ]
    refine take_one (i := 22) (d := 63) (oi := ?_) (v := ?_) ?_ (by kernel_rfl) (by kernel_rfl) (by kernel_rfl) (fun _ _ _ h => h) ?_ ?_ ?_ (by assumption) ?_
    case refine_3 => (simp only [List.getElem?_toArray, List.getElem?_cons_succ, List.getElem?_cons_zero]; rfl)
    case refine_4 => rfl
    case refine_5 => rfl
    case refine_6 => (intro w' hSw; (try dsimp only at hSw); go_simp; (try with_reducible rfl))
    simp only [Act.put, List.setIfInBounds_toArray, List.set_cons_zero, List.set_cons_succ]
    refine take_one (i := 23) (d := 64) (oi := ?_) (v := ?_) ?_ (by kernel_rfl) (by kernel_rfl) (by kernel_rfl) (fun _ _ _ h => h) ?_ ?_ ?_ (by assumption) ?_
    case refine_3 => (simp only [List.getElem?_toArray, List.getElem?_cons_succ, List.getElem?_cons_zero]; rfl)
    case refine_4 => rfl
    case refine_5 => rfl
    case refine_6 => (intro w' hSw; (try dsimp only at hSw); go_simp; (try with_reducible rfl))
    simp only [Act.put, List.setIfInBounds_toArray, List.set_cons_zero, List.set_cons_succ]
    refine wpAnyH_ready (rs := [24]) (by kernel_rfl) (by simp) ?_
    refine AllReadyH.cons (o := ?_) ?_ (fun K hK => ?_) AllReadyH.nil
    case refine_2 => (simp only [List.getElem?_toArray, List.getElem?_cons_succ, List.getElem?_cons_zero]; rfl)
    go_simp
    (go_at_call 15; (with_reducible refine (Right_t _ _ _ HY.out (right_isRow HYu.out)).mono ?_); rintro e w13 ⟨rfl, ho⟩; (try replace HA := Lib.hid (HA.out.later ho)); (try replace HY := Lib.hid (HY.out.later ho)); (try replace HD := Lib.hid (HD.out.later ho)); (try replace HP := Lib.hid (HP.out.later ho)); (try replace HS := Lib.hid (HS.out.later ho)); (try replace HQ := Lib.hid (HQ.out.later ho)); have hO13 : Only (wd.heap.size ≤ ·) wd w13 := hO12.trans (ho.mono fun k h => Nat.le_trans hO12.size h); clear ho)
    go_wp2_with (fail)
    refine hK.out _ _ (HKEEP.out _ hO13) (fun hHeld => ?_)
    clear hK K
    try simp only [Act.put, List.setIfInBounds_toArray, List.set_cons_zero, List.set_cons_succ]
    refine take_one (i := 25) (d := 66) (oi := ?_) (v := ?_) ?_ (by kernel_rfl) (by kernel_rfl) (by kernel_rfl) (fun _ _ _ h => h) ?_ ?_ ?_ (by assumption) ?_
    case refine_3 => (simp only [List.getElem?_toArray, List.getElem?_cons_succ, List.getElem?_cons_zero]; rfl)
    case refine_4 => rfl
    case refine_5 => rfl
    case refine_6 => (intro w' hSw; (try dsimp only at hSw); go_simp; (try with_reducible rfl))
    simp only [Act.put, List.setIfInBounds_toArray, List.set_cons_zero, List.set_cons_succ]
    refine take_one (i := 26) (d := 67) (oi := ?_) (v := ?_) ?_ (by kernel_rfl) (by kernel_rfl) (by kernel_rfl) (fun _ _ _ h => h) ?_ ?_ ?_ (by assumption) ?_
    case refine_3 => (simp only [List.getElem?_toArray, List.getElem?_cons_succ, List.getElem?_cons_zero]; rfl)
    case refine_4 => rfl
    case refine_5 => rfl
    case refine_6 => (intro w' hSw; (try dsimp only at hSw); go_simp; (try with_reducible rfl))
    simp only [Act.put, List.setIfInBounds_toArray, List.set_cons_zero, List.set_cons_succ]
    refine take_one (i := 27) (d := 68) (oi := ?_) (v := ?_) ?_ (by kernel_rfl) (by kernel_rfl) (by kernel_rfl) (fun _ _ _ h => h) ?_ ?_ ?_ (by assumption) ?_
    case refine_3 => (simp only [List.getElem?_toArray, List.getElem?_cons_succ, List.getElem?_cons_zero]; rfl)
    case refine_4 => rfl
    case refine_5 => rfl
    case refine_6 => (intro w' hSw; (try dsimp only at hSw); go_simp; (try with_reducible rfl))
    simp only [Act.put, List.setIfInBounds_toArray, List.set_cons_zero, List.set_cons_succ]
    refine take_one (i := 28) (d := 69) (oi := ?_) (v := ?_) ?_ (by kernel_rfl) (by kernel_rfl) (by kernel_rfl) (fun _ _ _ h => h) ?_ ?_ ?_ (by assumption) ?_
    case refine_3 => (simp only [List.getElem?_toArray, List.getElem?_cons_succ, List.getElem?_cons_zero]; rfl)
    case refine_4 => rfl
    case refine_5 => rfl
    case refine_6 => (intro w' hSw; (try dsimp only at hSw); go_simp; (try with_reducible rfl))
    simp only [Act.put, List.setIfInBounds_toArray, List.set_cons_zero, List.set_cons_succ]
    refine wpAnyH_ready (rs := [29]) (by kernel_rfl) (by simp) ?_
    refine AllReadyH.cons (o := ?_) ?_ (fun K hK => ?_) AllReadyH.nil
    case refine_2 => (simp only [List.getElem?_toArray, List.getElem?_cons_succ, List.getElem?_cons_zero]; rfl)
    go_simp
    refine hK.out _ _ (HKEEP.out _ (hO13.alloc (fun _ h => h) _)) (fun hHeld => ?_)
    clear hK K
    try simp only [Act.put, List.setIfInBounds_toArray, List.set_cons_zero, List.set_cons_succ]
    refine wpAnyH_ready (rs := [30]) (by kernel_rfl) (by simp) ?_
    refine AllReadyH.cons (o := ?_) ?_ (fun K hK => ?_) AllReadyH.nil
    case refine_2 => (simp only [List.getElem?_toArray, List.getElem?_cons_succ, List.getElem?_cons_zero]; rfl)
    go_simp
    (go_at_call 28; have hrw : Row (w13.alloc (.cells #[.int .i64 x1, .int .i64 x2] 44)) (.slice (some ⟨w13.heap.size, 0, none⟩) 1 1) [(x1, x2)] := (blk_row (l := [(x1, x2)]) (Blk.new w13 44 [.int .i64 x1, .int .i64 x2]) (by simp)); (with_reducible refine (HMT.out _ _ _ _ (HD.out.later ((Only.refl _ w13).alloc (fun _ h => h) (.cells #[.int .i64 x1, .int .i64 x2] 44))) hrw HDu.out).mono ?_); rintro e w14 ⟨rfl, ho⟩; have hO14 : Only (wd.heap.size ≤ ·) wd w14 := (hO13.alloc (fun _ h => h) (.cells #[.int .i64 x1, .int .i64 x2] 44)).trans (ho.mono fun k h => Nat.le_trans hO13.size (Nat.le_trans (by simp) h)); clear ho)
    go_wp2_with (fail)
    refine hK.out _ _ (HKEEP.out _ hO14) (fun hHeld => ?_)
    clear hK K
    try simp only [Act.put, List.setIfInBounds_toArray, List.set_cons_zero, List.set_cons_succ]
    refine take_one (i := 31) (d := 72) (oi := ?_) (v := ?_) ?_ (by kernel_rfl) (by kernel_rfl) (by kernel_rfl) (fun _ _ _ h => h) ?_ ?_ ?_ (by assumption) ?_
    case refine_3 => (simp only [List.getElem?_toArray, List.getElem?_cons_succ, List.getElem?_cons_zero]; rfl)
    case refine_4 => rfl
    case refine_5 => rfl
    case refine_6 => (intro w' hSw; (try dsimp only at hSw); go_simp; (try with_reducible rfl))
    simp only [Act.put, List.setIfInBounds_toArray, List.set_cons_zero, List.set_cons_succ]
    refine take_one (i := 32) (d := 73) (oi := ?_) (v := ?_) ?_ (by kernel_rfl) (by kernel_rfl) (by kernel_rfl) (fun _ _ _ h => h) ?_ ?_ ?_ (by assumption) ?_
    case refine_3 => (simp only [List.getElem?_toArray, List.getElem?_cons_succ, List.getElem?_cons_zero]; rfl)
    case refine_4 => rfl
    case refine_5 => rfl
    case refine_6 => (intro w' hSw; (try dsimp only at hSw); go_simp; (try with_reducible rfl))
    simp only [Act.put, List.setIfInBounds_toArray, List.set_cons_zero, List.set_cons_succ]
    refine take_one (i := 33) (d := 4) (oi := ?_) (v := ?_) ?_ (by kernel_rfl) (by kernel_rfl) (by kernel_rfl) (fun _ _ _ h => h) ?_ ?_ ?_ (by assumption) ?_
    case refine_3 => (simp only [List.getElem?_toArray, List.getElem?_cons_succ, List.getElem?_cons_zero]; rfl)
    case refine_4 => rfl
    case refine_5 => rfl
    case refine_6 => (intro w' hSw; (try dsimp only at hSw); go_simp; (try with_reducible rfl))
    simp only [Act.put, List.setIfInBounds_toArray, List.set_cons_zero, List.set_cons_succ]
    refine wpAnyH_done (by kernel_rfl) ?_ _
    replace HO := Lib.hid (on_new HO.out hO14)
    clear hHeld
    go_wp2
    go_ret
    exact ⟨rfl, HO.out⟩
  · have HAD : Hid (∀ W v, Row W v l → Calls Try.prog 25 #[v, .agg #[.int .i64 x1, .int .i64 x2]] W fun e w' => (∃ v, e = .returned (.tuple #[v, .bool false]) ∧ Row w' v (known l)) ∧ Only (W.heap.size ≤ ·) W w') := fun W v hv => Add_no W v l (x1, x2) hv HAi.out HXI.out hcan
    clear hcan
    cases mx
    all_goals
      (try have hmm := (may_iff (x1, x2)).1 HMX.out.symm)
      (try have hnb : ¬ 600 < x1 + x2 := fun hh => hbig ⟨rfl, hh⟩)
      (try simp only at hmm)
      clear hbig
      go_enter Try.func7, Try.ntmps7
      go_wp2_with (fail)
      rw [← HWX.out.1, ← HWX.out.2]
      go_wp2_with (first
        | (go_at_call 10; (with_reducible refine (few_b _ _ _ _ HA.out HSA.out).mono ?_); rintro e w1 ⟨rfl, ho⟩; (try replace HA := Lib.hid (HA.out.later ho)); (try replace HC := Lib.hid (HC.out.later ho)); (try (have hq1 := HC.out.cell 0; have hq2 := HC.out.cell 1; simp at hq1 hq2)); replace HO := Lib.hid (on_new HO.out ho); clear ho)
        | (go_at_call 24; (with_reducible refine (HMC.out _).mono ?_); rintro e w2 ⟨rfl, ho⟩; (try replace HA := Lib.hid (HA.out.later ho)); (try replace HC := Lib.hid (HC.out.later ho)); (try (have hq1 := HC.out.cell 0; have hq2 := HC.out.cell 1; simp at hq1 hq2)); replace HO := Lib.hid (on_new HO.out ho); clear ho))
      have HKEEP : Hid (∀ W : World, Only (w2.heap.size ≤ ·) w2 W → W.cell? ⟨bx, 0, none⟩ = some (.int .i64 x1) ∧ W.cell? ⟨bx, 0 + 1, none⟩ = some (.int .i64 x2)) := fun W hW => ⟨(HC.out.later hW).cell 0, (HC.out.later hW).cell 1⟩
      have hO2 : Only (w2.heap.size ≤ ·) w2 w2.drew := (Only.refl _ w2).drew
      replace HA := Lib.hid (HA.out.later hO2)
      refine wp_region_held_drew (S := (fun w' => w'.cell? ⟨bx, 0, none⟩ = some (.int .i64 x1) ∧ w'.cell? ⟨bx, 0 + 1, none⟩ = some (.int .i64 x2))) (by kernel_rfl) (HKEEP.out _ hO2) (fun hHeld => ?_)
      refine take_one (i := 0) (d := 26) (oi := ?_) (v := ?_) ?_ (by kernel_rfl) (by kernel_rfl) (by kernel_rfl) (fun _ _ _ h => h) ?_ ?_ ?_ (by assumption) ?_
      case refine_3 => (simp only [List.getElem?_toArray, List.getElem?_cons_zero]; rfl)
      case refine_4 => rfl
      case refine_5 => rfl
      case refine_6 => (intro w' hSw; (try dsimp only at hSw); go_simp; (try with_reducible rfl))
      simp only [Act.put, List.setIfInBounds_toArray, List.set_cons_zero, List.set_cons_succ]
      refine take_one (i := 2) (d := 28) (oi := ?_) (v := ?_) ?_ (by kernel_rfl) (by kernel_rfl) (by kernel_rfl) (fun _ _ _ h => h) ?_ ?_ ?_ (by assumption) ?_
      case refine_3 => (simp only [List.getElem?_toArray, List.getElem?_cons_succ, List.getElem?_cons_zero]; rfl)
      case refine_4 => rfl
      case refine_5 => rfl
      case refine_6 => (intro w' hSw; (try dsimp only at hSw); go_simp; (try with_reducible rfl))
      simp only [Act.put, List.setIfInBounds_toArray, List.set_cons_zero, List.set_cons_succ]
      refine wpAnyH_ready (rs := [1]) (by kernel_rfl) (by simp) ?_
      refine AllReadyH.cons (o := ?_) ?_ (fun K hK => ?_) AllReadyH.nil
      case refine_2 => (simp only [List.getElem?_toArray, List.getElem?_cons_succ, List.getElem?_cons_zero]; rfl)
      go_simp
      (go_at_call 14; (with_reducible refine (of_v _ _ _ HA.out (by first | exact HAlen.out | decide)).mono ?_); rintro e w3 ⟨⟨vx, rfl, h⟩, ho⟩; (try replace HA := Lib.hid (HA.out.later ho)); (try replace HX := Lib.hid (HX.out.later ho)); (try replace HY := Lib.hid (HY.out.later ho)); have HX := Lib.hid h; (try have HXlen := Lib.hid HAlen.out); (try have HXi := Lib.hid HAi.out); clear h; have hO3 : Only (w2.heap.size ≤ ·) w2 w3 := hO2.trans (ho.mono fun k h => Nat.le_trans hO2.size h); clear ho)
      go_wp2_with (fail)
      refine hK.out _ _ (HKEEP.out _ hO3) (fun hHeld => ?_)
      clear hK K
      try simp only [Act.put, List.setIfInBounds_toArray, List.set_cons_zero, List.set_cons_succ]
      refine wpAnyH_ready (rs := [3]) (by kernel_rfl) (by simp) ?_
      refine AllReadyH.cons (o := ?_) ?_ (fun K hK => ?_) AllReadyH.nil
      case refine_2 => (simp only [List.getElem?_toArray, List.getElem?_cons_succ, List.getElem?_cons_zero]; rfl)
      go_simp
      (go_at_call 25; (with_reducible refine (HAD.out _ _ HX.out).mono ?_); rintro e w4 ⟨⟨vy, rfl, h⟩, ho⟩; (try replace HA := Lib.hid (HA.out.later ho)); (try replace HX := Lib.hid (HX.out.later ho)); (try replace HY := Lib.hid (HY.out.later ho)); have HY := Lib.hid h; clear h; have hO4 : Only (w2.heap.size ≤ ·) w2 w4 := hO3.trans (ho.mono fun k h => Nat.le_trans hO3.size h); clear ho)
      go_wp2_with (fail)
      refine hK.out _ _ (HKEEP.out _ hO4) (fun hHeld => ?_)
      clear hK K
      try simp only [Act.put, List.setIfInBounds_toArray, List.set_cons_zero, List.set_cons_succ]
      refine take_one (i := 4) (d := 25) (oi := ?_) (v := ?_) ?_ (by kernel_rfl) (by kernel_rfl) (by kernel_rfl) (fun _ _ _ h => h) ?_ ?_ ?_ (by assumption) ?_
      case refine_3 => (simp only [List.getElem?_toArray, List.getElem?_cons_succ, List.getElem?_cons_zero]; rfl)
      case refine_4 => rfl
      case refine_5 => rfl
      case refine_6 => (intro w' hSw; (try dsimp only at hSw); go_simp; (try with_reducible rfl))
      simp only [Act.put, List.setIfInBounds_toArray, List.set_cons_zero, List.set_cons_succ]
      refine take_one (i := 5) (d := 30) (oi := ?_) (v := ?_) ?_ (by kernel_rfl) (by kernel_rfl) (by kernel_rfl) (fun _ _ _ h => h) ?_ ?_ ?_ (by assumption) ?_
      case refine_3 => (simp only [List.getElem?_toArray, List.getElem?_cons_succ, List.getElem?_cons_zero]; rfl)
      case refine_4 => rfl
      case refine_5 => rfl
      case refine_6 => (intro w' hSw; (try dsimp only at hSw); go_simp; (try with_reducible rfl))
      simp only [Act.put, List.setIfInBounds_toArray, List.set_cons_zero, List.set_cons_succ]
      refine take_one (i := 6) (d := 31) (oi := ?_) (v := ?_) ?_ (by kernel_rfl) (by kernel_rfl) (by kernel_rfl) (fun _ _ _ h => h) ?_ ?_ ?_ (by assumption) ?_
      case refine_3 => (simp only [List.getElem?_toArray, List.getElem?_cons_succ, List.getElem?_cons_zero]; rfl)
      case refine_4 => rfl
      case refine_5 => rfl
      case refine_6 => (intro w' hSw; (try dsimp only at hSw); go_simp; (try with_reducible rfl))
      simp only [Act.put, List.setIfInBounds_toArray, List.set_cons_zero, List.set_cons_succ]
      refine take_one (i := 7) (d := 5) (oi := ?_) (v := ?_) ?_ (by kernel_rfl) (by kernel_rfl) (by kernel_rfl) (fun _ _ _ h => h) ?_ ?_ ?_ (by assumption) ?_
      case refine_3 => (simp only [List.getElem?_toArray, List.getElem?_cons_succ, List.getElem?_cons_zero]; rfl)
      case refine_4 => rfl
      case refine_5 => rfl
      case refine_6 => (intro w' hSw; (try dsimp only at hSw); go_simp; (try with_reducible rfl))
      simp only [Act.put, List.setIfInBounds_toArray, List.set_cons_zero, List.set_cons_succ]
      refine take_one (i := 8) (d := 6) (oi := ?_) (v := ?_) ?_ (by kernel_rfl) (by kernel_rfl) (by kernel_rfl) (fun _ _ _ h => h) ?_ ?_ ?_ (by assumption) ?_
      case refine_3 => (simp only [List.getElem?_toArray, List.getElem?_cons_succ, List.getElem?_cons_zero]; rfl)
      case refine_4 => rfl
      case refine_5 => rfl
      case refine_6 => (intro w' hSw; (try dsimp only at hSw); go_simp; (try with_reducible rfl))
      simp only [Act.put, List.setIfInBounds_toArray, List.set_cons_zero, List.set_cons_succ]
      refine wpAnyH_done (by kernel_rfl) ?_ _
      replace HO := Lib.hid (on_new HO.out hO4)
      clear hHeld hO2 hO3 hO4
      go_wp2_with (first
        | (go_at_call 11; (with_reducible refine (alive_c _).mono ?_); rintro e w20 ⟨rfl, ho⟩; replace HO := Lib.hid (on_new HO.out ho); clear ho))
      go_ret
      exact ⟨rfl, HO.out⟩
end Go.Proofs.Ytjnaejogclmooaa
