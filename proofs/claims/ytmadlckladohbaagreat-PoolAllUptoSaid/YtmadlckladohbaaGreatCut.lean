/-
  cut of the program.
-/
import Derived.Test.YtmadlckladohbaaGreatIdx
set_option linter.unusedVariables false
namespace Go.Proofs.YtmadlckladohbaaGreat
open Go.RowKit

/-- What is left of a run without x. -/
def cutOf (r x : R) : List R := if r.1 = x.1 ∧ r.2 = x.2 then [] else if r.1 = x.1 then [(x.1 + x.2, r.1 + r.2 - (x.1 + x.2))] else if r.1 + r.2 = x.1 + x.2 then [(r.1, x.1 - r.1)] else [(r.1, x.1 - r.1), (x.1 + x.2, r.1 + r.2 - (x.1 + x.2))]
/-- A new row comes back, as a slice value. -/
def NewRow (w : World) (l : List R) (e : Ending) (w' : World) : Prop := ∃ A n c, e = .returned (.slice A n c) ∧ n = l.length ∧ c = n ∧ c ≤ 2 ∧ (A = none → c = 0) ∧ (l = [] → A = none ∧ c = 0) ∧ (∀ ad, A = some ad → ∃ g, ad = ⟨g, 0, none⟩ ∧ w.heap.size ≤ g ∧ Blk w' g 54 (rc l)) ∧ Only (w.heap.size ≤ ·) w w'

set_option maxRecDepth 100000 in
set_option maxHeartbeats 6400000 in
theorem cut_c (w : World) (r x : R) (hr : may r = true) (hx : may x = true) (hw : whole r x = true) :
    Calls Tryz.prog 72 #[.agg #[.int .i64 r.1, .int .i64 r.2], .agg #[.int .i64 x.1, .int .i64 x.2]] w (NewRow w (cutOf r x)) := by
  have hmr := (may_iff r).1 hr
  have hmx := (may_iff x).1 hx
  have hmw := (whole_iff r x).1 hw
  obtain ⟨l, hl⟩ : ∃ l, l = cutOf r x := ⟨_, rfl⟩
  have HL := Lib.hid hl
  rw [← hl]
  clear hl hr hx hw
  obtain ⟨r1, r2⟩ := r
  obtain ⟨x1, x2⟩ := x
  simp only at hmr hmx hmw
  have HE : Hid (∀ W : World, Calls Tryz.prog 52 #[.agg #[.int .i64 x1, .int .i64 x2]] W fun e w' => e = .returned (.int .i64 (x1 + x2)) ∧ Only (W.heap.size ≤ ·) W w') := fun W => end_c W x1 x2 (by omega) (by omega)
  have HE' : Hid (∀ W : World, Calls Tryz.prog 52 #[.agg #[.int .i64 r1, .int .i64 r2]] W fun e w' => e = .returned (.int .i64 (r1 + r2)) ∧ Only (W.heap.size ≤ ·) W w') := fun W => end_c W r1 r2 (by omega) (by omega)
  obtain ⟨wz, hwz⟩ : ∃ wz, wz = ((w.alloc (.cells #[.int .i64 r1, .int .i64 r2] 54)).alloc (.cells #[.int .i64 x1, .int .i64 x2] 54)).alloc (.cells #[.int .i64 r1, .int .i64 (x1 - r1)] 54) := ⟨_, rfl⟩
  have HBR : Hid (Blk wz w.heap.size 54 [.int .i64 r1, .int .i64 r2]) := by rw [hwz]; exact ((Blk.new w 54 [.int .i64 r1, .int .i64 r2]).alloc _).alloc _
  have HBX : Hid (Blk wz (w.heap.size + 1) 54 [.int .i64 x1, .int .i64 x2]) := by
    have := (Blk.new (w.alloc (.cells #[.int .i64 r1, .int .i64 r2] 54)) 54 [.int .i64 x1, .int .i64 x2]).alloc (.cells #[.int .i64 r1, .int .i64 (x1 - r1)] 54)
    rw [hwz]; exact Lib.hid (by simpa using this)
  have HBA : Hid (Blk wz (w.heap.size + 2) 54 [.int .i64 r1, .int .i64 (x1 - r1)]) := by
    have := Blk.new ((w.alloc (.cells #[.int .i64 r1, .int .i64 r2] 54)).alloc (.cells #[.int .i64 x1, .int .i64 x2] 54)) 54 [.int .i64 r1, .int .i64 (x1 - r1)]
    rw [hwz]; exact Lib.hid (by simpa using this)
  have HOZ : Hid (Only (w.heap.size ≤ ·) w wz) := by rw [hwz]; exact (((Only.refl _ w).alloc (fun _ h => h) _).alloc (fun _ h => h) _).alloc (fun _ h => h) _
  have HKEEP : Hid (∀ W : World, Only (wz.heap.size ≤ ·) wz W → W.cell? ⟨w.heap.size, 0, none⟩ = some (.int .i64 r1) ∧ W.cell? ⟨w.heap.size, 0 + 1, none⟩ = some (.int .i64 r2) ∧ W.cell? ⟨w.heap.size + 1, 0, none⟩ = some (.int .i64 x1) ∧ W.cell? ⟨w.heap.size + 1, 0 + 1, none⟩ = some (.int .i64 x2)) := fun W hW => ⟨(HBR.out.later hW).cell 0, (HBR.out.later hW).cell 1, (HBX.out.later hW).cell 0, (HBX.out.later hW).cell 1⟩
  have HWZ := Lib.hid hwz
  have HSZ : Hid (wz.heap.size = w.heap.size + 3) := by rw [hwz]; exact Lib.hid (by simp)
  clear hwz
  have a1 : IntKind.i64.wrap (r1 + r2 - (x1 + x2)) = r1 + r2 - (x1 + x2) := IntWalk.i64_in _ (by omega)
  go_enter Tryz.func72, Tryz.ntmps72
  go_wp2_with (fail)
  rw [← HWZ.out]
  refine wp_region_held_drew (S := (fun w' => w'.cell? ⟨w.heap.size, 0, none⟩ = some (.int .i64 r1) ∧ w'.cell? ⟨w.heap.size, 0 + 1, none⟩ = some (.int .i64 r2) ∧ w'.cell? ⟨w.heap.size + 1, 0, none⟩ = some (.int .i64 x1) ∧ w'.cell? ⟨w.heap.size + 1, 0 + 1, none⟩ = some (.int .i64 x2))) (by kernel_rfl) (HKEEP.out _ (Only.refl _ wz).drew) (fun hHeld => ?_)
  have hOW : Only (wz.heap.size ≤ ·) wz wz.drew := (Only.refl _ wz).drew
  obtain ⟨w0, hw0⟩ : ∃ w0, w0 = wz.drew := ⟨_, rfl⟩
  rw [← hw0] at hHeld hOW ⊢
  clear hw0
  refine take_one (i := 0) (d := 15) (oi := ?_) (v := ?_) ?_ (by kernel_rfl) (by kernel_rfl) (by kernel_rfl) (fun _ _ _ h => h) ?_ ?_ ?_ (by assumption) ?_
  case refine_3 => (simp only [List.getElem?_toArray, List.getElem?_cons_zero]; rfl)
  case refine_4 => rfl
  case refine_5 => rfl
  case refine_6 => (intro w' hSw; (try dsimp only at hSw); go_simp; (try with_reducible rfl))
  simp only [Act.put, List.setIfInBounds_toArray, List.set_cons_zero, List.set_cons_succ]
  refine take_one (i := 2) (d := 17) (oi := ?_) (v := ?_) ?_ (by kernel_rfl) (by kernel_rfl) (by kernel_rfl) (fun _ _ _ h => h) ?_ ?_ ?_ (by assumption) ?_
  case refine_3 => (simp only [List.getElem?_toArray, List.getElem?_cons_succ, List.getElem?_cons_zero]; rfl)
  case refine_4 => rfl
  case refine_5 => rfl
  case refine_6 => (intro w' hSw; (try dsimp only at hSw); go_simp; (try with_reducible rfl))
  simp only [Act.put, List.setIfInBounds_toArray, List.set_cons_zero, List.set_cons_succ]
  refine take_one (i := 4) (d := 19) (oi := ?_) (v := ?_) ?_ (by kernel_rfl) (by kernel_rfl) (by kernel_rfl) (fun _ _ _ h => h) ?_ ?_ ?_ (by assumption) ?_
  case refine_3 => (simp only [List.getElem?_toArray, List.getElem?_cons_succ, List.getElem?_cons_zero]; rfl)
  case refine_4 => rfl
  case refine_5 => rfl
  case refine_6 => (intro w' hSw; (try dsimp only at hSw); go_simp; (try with_reducible rfl))
  simp only [Act.put, List.setIfInBounds_toArray, List.set_cons_zero, List.set_cons_succ]
  refine wpAnyH_ready (rs := [1, 8]) (by kernel_rfl) (by simp) ?_
  refine AllReadyH.cons (o := ?_) ?_ (fun K hK => ?_) (AllReadyH.cons (o := ?_) ?_ (fun K hK => ?_) AllReadyH.nil)
  case refine_2 => (simp only [List.getElem?_toArray, List.getElem?_cons_succ, List.getElem?_cons_zero]; rfl)
  case refine_5 => (simp only [List.getElem?_toArray, List.getElem?_cons_succ, List.getElem?_cons_zero]; rfl)
  case refine_3 =>
    go_simp
    (go_at_call 52; (with_reducible refine (HE.out _).mono ?_); rintro e w1 ⟨rfl, ho1⟩; have hO1 : Only (wz.heap.size ≤ ·) wz w1 := Only.trans hOW (ho1.mono fun k h => Nat.le_trans (Only.size hOW) h))
    go_wp2_with (fail)
    refine hK.out _ _ (HKEEP.out _ hO1) (fun hHeld => ?_)
    clear hK K
    try simp only [Act.put, List.setIfInBounds_toArray, List.set_cons_zero, List.set_cons_succ]
    refine wpAnyH_ready (rs := [3, 8]) (by kernel_rfl) (by simp) ?_
    refine AllReadyH.cons (o := ?_) ?_ (fun K hK => ?_) (AllReadyH.cons (o := ?_) ?_ (fun K hK => ?_) AllReadyH.nil)
    case refine_2 => (simp only [List.getElem?_toArray, List.getElem?_cons_succ, List.getElem?_cons_zero]; rfl)
    case refine_5 => (simp only [List.getElem?_toArray, List.getElem?_cons_succ, List.getElem?_cons_zero]; rfl)
    case refine_3 =>
      go_simp
      (go_at_call 52; (with_reducible refine (HE'.out _).mono ?_); rintro e w2 ⟨rfl, ho2⟩; have hO2 : Only (wz.heap.size ≤ ·) wz w2 := Only.trans hO1 (ho2.mono fun k h => Nat.le_trans (Only.size hO1) h))
      go_wp2_with (fail)
      refine hK.out _ _ (HKEEP.out _ hO2) (fun hHeld => ?_)
      clear hK K
      try simp only [Act.put, List.setIfInBounds_toArray, List.set_cons_zero, List.set_cons_succ]
      refine wpAnyH_ready (rs := [5, 8]) (by kernel_rfl) (by simp) ?_
      refine AllReadyH.cons (o := ?_) ?_ (fun K hK => ?_) (AllReadyH.cons (o := ?_) ?_ (fun K hK => ?_) AllReadyH.nil)
      case refine_2 => (simp only [List.getElem?_toArray, List.getElem?_cons_succ, List.getElem?_cons_zero]; rfl)
      case refine_5 => (simp only [List.getElem?_toArray, List.getElem?_cons_succ, List.getElem?_cons_zero]; rfl)
      case refine_3 =>
        go_simp
        (go_at_call 52; (with_reducible refine (HE.out _).mono ?_); rintro e w3 ⟨rfl, ho3⟩; have hO3 : Only (wz.heap.size ≤ ·) wz w3 := Only.trans hO2 (ho3.mono fun k h => Nat.le_trans (Only.size hO2) h))
        go_wp2_with (fail)
        refine hK.out _ _ (HKEEP.out _ hO3) (fun hHeld => ?_)
        clear hK K
        try simp only [Act.put, List.setIfInBounds_toArray, List.set_cons_zero, List.set_cons_succ]
        refine take_one (i := 6) (d := 21) (oi := ?_) (v := ?_) ?_ (by kernel_rfl) (by kernel_rfl) (by kernel_rfl) (fun _ _ _ h => h) ?_ ?_ ?_ (by assumption) ?_
        case refine_3 => (simp only [List.getElem?_toArray, List.getElem?_cons_succ, List.getElem?_cons_zero]; rfl)
        case refine_4 => rfl
        case refine_5 => rfl
        case refine_6 => (intro w' hSw; (try dsimp only at hSw); go_simp; (try with_reducible rfl))
        simp only [Act.put, List.setIfInBounds_toArray, List.set_cons_zero, List.set_cons_succ]
        refine take_one (i := 7) (d := 22) (oi := ?_) (v := ?_) ?_ (by kernel_rfl) (by kernel_rfl) (by kernel_rfl) (fun _ _ _ h => h) ?_ ?_ ?_ (by assumption) ?_
        case refine_3 => (simp only [List.getElem?_toArray, List.getElem?_cons_succ, List.getElem?_cons_zero]; rfl)
        case refine_4 => rfl
        case refine_5 => rfl
        case refine_6 => (intro w' hSw; (try dsimp only at hSw); go_simp; (try with_reducible rfl))
        simp only [Act.put, List.setIfInBounds_toArray, List.set_cons_zero, List.set_cons_succ]
        refine wpAnyH_ready (rs := [8]) (by kernel_rfl) (by simp) ?_
        refine AllReadyH.cons (o := ?_) ?_ (fun K hK => ?_) AllReadyH.nil
        case refine_2 => (simp only [List.getElem?_toArray, List.getElem?_cons_succ, List.getElem?_cons_zero]; rfl)
        go_simp
        have HNB := Lib.hid (Blk.new w3 54 [.int .i64 0, .int .i64 0])
        have hOA : Only (wz.heap.size ≤ ·) wz (w3.alloc (.cells #[.int .i64 0, .int .i64 0] 54)) := hO3.alloc (fun _ h => h) _
        have HNG : Hid (wz.heap.size ≤ w3.heap.size) := hO3.size
        obtain ⟨nb, hnb⟩ : ∃ nb, nb = w3.heap.size := ⟨_, rfl⟩
        obtain ⟨wa, hwa⟩ : ∃ wa, wa = w3.alloc (.cells #[.int .i64 0, .int .i64 0] 54) := ⟨_, rfl⟩
        rw [← hnb] at HNB HNG
        rw [← hwa] at HNB hOA
        rw [← hwa, ← hnb]
        refine hK.out _ _ (HKEEP.out _ hOA) (fun hHeld => ?_)
        clear hK K hnb hwa
        try simp only [Act.put, List.setIfInBounds_toArray, List.set_cons_zero, List.set_cons_succ]
        refine wpAnyH_ready (rs := [9]) (by kernel_rfl) (by simp) ?_
        refine AllReadyH.cons (o := ?_) ?_ (fun K hK => ?_) AllReadyH.nil
        case refine_2 => (simp only [List.getElem?_toArray, List.getElem?_cons_succ, List.getElem?_cons_zero]; rfl)
        have hn0 := HNB.out.cell 0
        have hn1 := HNB.out.cell 1
        have hf0 := HNB.out.frozen 0
        have hf1 := HNB.out.frozen 1
        simp at hn0 hn1
        go_simp
        have HBH := Lib.hid ((HNB.out.set_ 0 (.int .i64 (x1 + x2))).set_ 1 (.int .i64 (r1 + r2 - (x1 + x2))))
        have HO9 : Hid (Only (wz.heap.size ≤ ·) wz ((wa.setCell ⟨nb, 0, none⟩ (.int .i64 (x1 + x2))).setCell ⟨nb, 1, none⟩ (.int .i64 (r1 + r2 - (x1 + x2))))) := (hOA.setCell (p := ⟨nb, 0, none⟩) HNG.out _).setCell (p := ⟨nb, 1, none⟩) HNG.out _
        generalize (wa.setCell ⟨nb, 0, none⟩ (.int .i64 (x1 + x2))).setCell ⟨nb, 1, none⟩ (.int .i64 (r1 + r2 - (x1 + x2))) = w9 at HBH HO9 ⊢
        refine hK.out _ _ (HKEEP.out _ HO9.out) (fun hHeld => ?_)
        clear hK K
        try simp only [Act.put, List.setIfInBounds_toArray, List.set_cons_zero, List.set_cons_succ]
        refine wpAnyH_done (by kernel_rfl) ?_ _
        clear hHeld hn0 hn1 hf0 hf1
        have HBH' : Hid (Blk w9 nb 54 [.int .i64 (x1 + x2), .int .i64 (r1 + r2 - (x1 + x2))]) := HBH.out
        have HBA9 := Lib.hid (HBA.out.later HO9.out)
        have HO9' : Hid (Only (w.heap.size ≤ ·) w w9) := on_new HOZ.out HO9.out
        have HKEEP9 : Hid (∀ W : World, Only (w9.heap.size ≤ ·) w9 W → W.cell? ⟨w.heap.size, 0, none⟩ = some (.int .i64 r1) ∧ W.cell? ⟨w.heap.size, 0 + 1, none⟩ = some (.int .i64 r2) ∧ W.cell? ⟨w.heap.size + 1, 0, none⟩ = some (.int .i64 x1) ∧ W.cell? ⟨w.heap.size + 1, 0 + 1, none⟩ = some (.int .i64 x2)) := fun W hW => HKEEP.out W (on_new HO9.out hW)
        obtain ⟨k1, k2, k3, k4⟩ := HKEEP.out _ HO9.out
        have b1 := HBH'.out.cell 0
        have b2 := HBH'.out.cell 1
        have c1 := HBA9.out.cell 0
        have c2 := HBA9.out.cell 1
        simp at k2 k4 b1 b2 c1 c2
        clear HBH
        by_cases h1 : r1 = x1 ∧ r2 = x2
        · obtain rfl : l = [] := by rw [HL.out]; unfold cutOf; rw [if_pos h1]
          have heq : ∀ W : World, (binOp .eql 54 (.agg #[.int .i64 r1, .int .i64 r2]) (.agg #[.int .i64 x1, .int .i64 x2])).run Tryz.prog W = .ok (.bool true) W := fun W => by rw [eqlRun, decide_eq_true h1]
          clear h1
          go_wp2
          go_ret
          exact ⟨none, 0, 0, rfl, rfl, rfl, by omega, fun _ => rfl, fun _ => ⟨rfl, rfl⟩, (fun ad e => by cases e), HO9'.out⟩
        · have heq : ∀ W : World, (binOp .eql 54 (.agg #[.int .i64 r1, .int .i64 r2]) (.agg #[.int .i64 x1, .int .i64 x2])).run Tryz.prog W = .ok (.bool false) W := fun W => by rw [eqlRun, decide_eq_false h1]
          have H1 := Lib.hid h1
          clear h1
          by_cases h2 : r1 = x1
          · have hb0 : (r1 == x1) = true := beq_iff_eq.2 h2
            have H2 : Hid (l = [(x1 + x2, r1 + r2 - (x1 + x2))]) := by show _ = _; rw [HL.out]; unfold cutOf; rw [if_neg H1.out, if_pos h2]
            clear h2
            go_wp2
            go_ret
            refine ⟨_, 1, 1, rfl, by rw [H2.out]; rfl, rfl, by omega, (fun e => by cases e), (fun e => by rw [H2.out] at e; cases e), fun ad e => ⟨_, (Option.some.inj e).symm, HO9'.out.size, ?_⟩, HO9'.out.alloc (fun _ h => h) _⟩
            rw [H2.out]
            exact Blk.new w9 54 [.int .i64 (x1 + x2), .int .i64 (r1 + r2 - (x1 + x2))]
          · have hb0 : (r1 == x1) = false := beq_eq_false_iff_ne.2 h2
            have H2 := Lib.hid h2
            clear h2 b1 b2 c1 c2
            go_wp2_with (fail)
            refine wp_region_held_drew (S := (fun w' => w'.cell? ⟨w.heap.size, 0, none⟩ = some (.int .i64 r1) ∧ w'.cell? ⟨w.heap.size, 0 + 1, none⟩ = some (.int .i64 r2) ∧ w'.cell? ⟨w.heap.size + 1, 0, none⟩ = some (.int .i64 x1) ∧ w'.cell? ⟨w.heap.size + 1, 0 + 1, none⟩ = some (.int .i64 x2))) (by kernel_rfl) (HKEEP9.out _ (Only.refl _ w9).drew) (fun hHeld => ?_)
            refine take_one (i := 0) (d := 36) (oi := ?_) (v := ?_) ?_ (by kernel_rfl) (by kernel_rfl) (by kernel_rfl) (fun _ _ _ h => h) ?_ ?_ ?_ (by assumption) ?_
            case refine_3 => (simp only [List.getElem?_toArray, List.getElem?_cons_zero]; rfl)
            case refine_4 => rfl
            case refine_5 => rfl
            case refine_6 => (intro w' hSw; (try dsimp only at hSw); go_simp; (try with_reducible rfl))
            simp only [Act.put, List.setIfInBounds_toArray, List.set_cons_zero, List.set_cons_succ]
            refine take_one (i := 2) (d := 38) (oi := ?_) (v := ?_) ?_ (by kernel_rfl) (by kernel_rfl) (by kernel_rfl) (fun _ _ _ h => h) ?_ ?_ ?_ (by assumption) ?_
            case refine_3 => (simp only [List.getElem?_toArray, List.getElem?_cons_succ, List.getElem?_cons_zero]; rfl)
            case refine_4 => rfl
            case refine_5 => rfl
            case refine_6 => (intro w' hSw; (try dsimp only at hSw); go_simp; (try with_reducible rfl))
            simp only [Act.put, List.setIfInBounds_toArray, List.set_cons_zero, List.set_cons_succ]
            refine wpAnyH_ready (rs := [1]) (by kernel_rfl) (by simp) ?_
            refine AllReadyH.cons (o := ?_) ?_ (fun K hK => ?_) AllReadyH.nil
            case refine_2 => (simp only [List.getElem?_toArray, List.getElem?_cons_succ, List.getElem?_cons_zero]; rfl)
            go_simp
            (go_at_call 52; (with_reducible refine (HE'.out _).mono ?_); rintro e v4 ⟨rfl, ho4⟩; have hO4 : Only (w9.heap.size ≤ ·) w9 v4 := Only.trans (Only.refl _ w9).drew (ho4.mono fun _ h => h))
            go_wp2_with (fail)
            refine hK.out _ _ (HKEEP9.out _ hO4) (fun hHeld => ?_)
            clear hK K
            try simp only [Act.put, List.setIfInBounds_toArray, List.set_cons_zero, List.set_cons_succ]
            refine wpAnyH_ready (rs := [3]) (by kernel_rfl) (by simp) ?_
            refine AllReadyH.cons (o := ?_) ?_ (fun K hK => ?_) AllReadyH.nil
            case refine_2 => (simp only [List.getElem?_toArray, List.getElem?_cons_succ, List.getElem?_cons_zero]; rfl)
            go_simp
            (go_at_call 52; (with_reducible refine (HE.out _).mono ?_); rintro e v5 ⟨rfl, ho5⟩; have hO5 : Only (w9.heap.size ≤ ·) w9 v5 := hO4.trans (ho5.mono fun k h => Nat.le_trans hO4.size h))
            go_wp2_with (fail)
            refine hK.out _ _ (HKEEP9.out _ hO5) (fun hHeld => ?_)
            clear hK K
            try simp only [Act.put, List.setIfInBounds_toArray, List.set_cons_zero, List.set_cons_succ]
            refine take_one (i := 4) (d := 40) (oi := ?_) (v := ?_) ?_ (by kernel_rfl) (by kernel_rfl) (by kernel_rfl) (fun _ _ _ h => h) ?_ ?_ ?_ (by assumption) ?_
            case refine_3 => (simp only [List.getElem?_toArray, List.getElem?_cons_succ, List.getElem?_cons_zero]; rfl)
            case refine_4 => rfl
            case refine_5 => rfl
            case refine_6 => (intro w' hSw; (try dsimp only at hSw); go_simp; (try with_reducible rfl))
            simp only [Act.put, List.setIfInBounds_toArray, List.set_cons_zero, List.set_cons_succ]
            refine take_one (i := 5) (d := 35) (oi := ?_) (v := ?_) ?_ (by kernel_rfl) (by kernel_rfl) (by kernel_rfl) (fun _ _ _ h => h) ?_ ?_ ?_ (by assumption) ?_
            case refine_3 => (simp only [List.getElem?_toArray, List.getElem?_cons_succ, List.getElem?_cons_zero]; rfl)
            case refine_4 => rfl
            case refine_5 => rfl
            case refine_6 => (intro w' hSw; (try dsimp only at hSw); go_simp; (try with_reducible rfl))
            simp only [Act.put, List.setIfInBounds_toArray, List.set_cons_zero, List.set_cons_succ]
            refine wpAnyH_done (by kernel_rfl) ?_ _
            have HO5' : Hid (Only (w.heap.size ≤ ·) w v5) := on_new HO9'.out hO5
            have d1 := (HBH'.out.later hO5).cell 0
            have d2 := (HBH'.out.later hO5).cell 1
            have e1 := (HBA9.out.later hO5).cell 0
            have e2 := (HBA9.out.later hO5).cell 1
            simp at d1 d2 e1 e2
            clear hHeld hO4 hO5 ho4 ho5 k1 k2 k3 k4 heq
            by_cases h3 : r1 + r2 = x1 + x2
            · have hb1 : (r1 + r2 == x1 + x2) = true := beq_iff_eq.2 h3
              have H3 : Hid (l = [(r1, x1 - r1)]) := by show _ = _; rw [HL.out]; unfold cutOf; rw [if_neg H1.out, if_neg H2.out, if_pos h3]
              clear h3
              go_wp2
              go_ret
              refine ⟨_, 1, 1, rfl, by rw [H3.out]; rfl, rfl, by omega, (fun e => by cases e), (fun e => by rw [H3.out] at e; cases e), fun ad e => ⟨_, (Option.some.inj e).symm, HO5'.out.size, ?_⟩, HO5'.out.alloc (fun _ h => h) _⟩
              rw [H3.out]
              exact Blk.new v5 54 [.int .i64 r1, .int .i64 (x1 - r1)]
            · have hb1 : (r1 + r2 == x1 + x2) = false := beq_eq_false_iff_ne.2 h3
              have H3 : Hid (l = [(r1, x1 - r1), (x1 + x2, r1 + r2 - (x1 + x2))]) := by show _ = _; rw [HL.out]; unfold cutOf; rw [if_neg H1.out, if_neg H2.out, if_neg h3]
              clear h3
              go_wp2
              go_ret
              refine ⟨_, 2, 2, rfl, by rw [H3.out]; rfl, rfl, by omega, (fun e => by cases e), (fun e => by rw [H3.out] at e; cases e), fun ad e => ⟨_, (Option.some.inj e).symm, HO5'.out.size, ?_⟩, HO5'.out.alloc (fun _ h => h) _⟩
              rw [H3.out]
              exact Blk.new v5 54 [.int .i64 r1, .int .i64 (x1 - r1), .int .i64 (x1 + x2), .int .i64 (r1 + r2 - (x1 + x2))]
      case refine_6 =>
        go_simp
        have HNB := Lib.hid (Blk.new w2 54 [.int .i64 0, .int .i64 0])
        have hOA : Only (wz.heap.size ≤ ·) wz (w2.alloc (.cells #[.int .i64 0, .int .i64 0] 54)) := hO2.alloc (fun _ h => h) _
        have HNG : Hid (wz.heap.size ≤ w2.heap.size) := hO2.size
        obtain ⟨nb, hnb⟩ : ∃ nb, nb = w2.heap.size := ⟨_, rfl⟩
        obtain ⟨wa, hwa⟩ : ∃ wa, wa = w2.alloc (.cells #[.int .i64 0, .int .i64 0] 54) := ⟨_, rfl⟩
        rw [← hnb] at HNB HNG
        rw [← hwa] at HNB hOA
        rw [← hwa, ← hnb]
        refine hK.out _ _ (HKEEP.out _ hOA) (fun hHeld => ?_)
        clear hK K hnb hwa
        try simp only [Act.put, List.setIfInBounds_toArray, List.set_cons_zero, List.set_cons_succ]
        refine wpAnyH_ready (rs := [5]) (by kernel_rfl) (by simp) ?_
        refine AllReadyH.cons (o := ?_) ?_ (fun K hK => ?_) AllReadyH.nil
        case refine_2 => (simp only [List.getElem?_toArray, List.getElem?_cons_succ, List.getElem?_cons_zero]; rfl)
        go_simp
        (go_at_call 52; (with_reducible refine (HE.out _).mono ?_); rintro e w3 ⟨rfl, ho3⟩; have hO3 : Only (wz.heap.size ≤ ·) wz w3 := Only.trans hOA (ho3.mono fun k h => Nat.le_trans (Only.size hOA) h); have HNB := Lib.hid (HNB.out.later ho3))
        go_wp2_with (fail)
        refine hK.out _ _ (HKEEP.out _ hO3) (fun hHeld => ?_)
        clear hK K
        try simp only [Act.put, List.setIfInBounds_toArray, List.set_cons_zero, List.set_cons_succ]
        refine take_one (i := 6) (d := 21) (oi := ?_) (v := ?_) ?_ (by kernel_rfl) (by kernel_rfl) (by kernel_rfl) (fun _ _ _ h => h) ?_ ?_ ?_ (by assumption) ?_
        case refine_3 => (simp only [List.getElem?_toArray, List.getElem?_cons_succ, List.getElem?_cons_zero]; rfl)
        case refine_4 => rfl
        case refine_5 => rfl
        case refine_6 => (intro w' hSw; (try dsimp only at hSw); go_simp; (try with_reducible rfl))
        simp only [Act.put, List.setIfInBounds_toArray, List.set_cons_zero, List.set_cons_succ]
        refine take_one (i := 7) (d := 22) (oi := ?_) (v := ?_) ?_ (by kernel_rfl) (by kernel_rfl) (by kernel_rfl) (fun _ _ _ h => h) ?_ ?_ ?_ (by assumption) ?_
        case refine_3 => (simp only [List.getElem?_toArray, List.getElem?_cons_succ, List.getElem?_cons_zero]; rfl)
        case refine_4 => rfl
        case refine_5 => rfl
        case refine_6 => (intro w' hSw; (try dsimp only at hSw); go_simp; (try with_reducible rfl))
        simp only [Act.put, List.setIfInBounds_toArray, List.set_cons_zero, List.set_cons_succ]
        refine wpAnyH_ready (rs := [9]) (by kernel_rfl) (by simp) ?_
        refine AllReadyH.cons (o := ?_) ?_ (fun K hK => ?_) AllReadyH.nil
        case refine_2 => (simp only [List.getElem?_toArray, List.getElem?_cons_succ, List.getElem?_cons_zero]; rfl)
        have hn0 := HNB.out.cell 0
        have hn1 := HNB.out.cell 1
        have hf0 := HNB.out.frozen 0
        have hf1 := HNB.out.frozen 1
        simp at hn0 hn1
        go_simp
        have HBH := Lib.hid ((HNB.out.set_ 0 (.int .i64 (x1 + x2))).set_ 1 (.int .i64 (r1 + r2 - (x1 + x2))))
        have HO9 : Hid (Only (wz.heap.size ≤ ·) wz ((w3.setCell ⟨nb, 0, none⟩ (.int .i64 (x1 + x2))).setCell ⟨nb, 1, none⟩ (.int .i64 (r1 + r2 - (x1 + x2))))) := (hO3.setCell (p := ⟨nb, 0, none⟩) HNG.out _).setCell (p := ⟨nb, 1, none⟩) HNG.out _
        generalize (w3.setCell ⟨nb, 0, none⟩ (.int .i64 (x1 + x2))).setCell ⟨nb, 1, none⟩ (.int .i64 (r1 + r2 - (x1 + x2))) = w9 at HBH HO9 ⊢
        refine hK.out _ _ (HKEEP.out _ HO9.out) (fun hHeld => ?_)
        clear hK K
        try simp only [Act.put, List.setIfInBounds_toArray, List.set_cons_zero, List.set_cons_succ]
        refine wpAnyH_done (by kernel_rfl) ?_ _
        clear hHeld hn0 hn1 hf0 hf1
        have HBH' : Hid (Blk w9 nb 54 [.int .i64 (x1 + x2), .int .i64 (r1 + r2 - (x1 + x2))]) := HBH.out
        have HBA9 := Lib.hid (HBA.out.later HO9.out)
        have HO9' : Hid (Only (w.heap.size ≤ ·) w w9) := on_new HOZ.out HO9.out
        have HKEEP9 : Hid (∀ W : World, Only (w9.heap.size ≤ ·) w9 W → W.cell? ⟨w.heap.size, 0, none⟩ = some (.int .i64 r1) ∧ W.cell? ⟨w.heap.size, 0 + 1, none⟩ = some (.int .i64 r2) ∧ W.cell? ⟨w.heap.size + 1, 0, none⟩ = some (.int .i64 x1) ∧ W.cell? ⟨w.heap.size + 1, 0 + 1, none⟩ = some (.int .i64 x2)) := fun W hW => HKEEP.out W (on_new HO9.out hW)
        obtain ⟨k1, k2, k3, k4⟩ := HKEEP.out _ HO9.out
        have b1 := HBH'.out.cell 0
        have b2 := HBH'.out.cell 1
        have c1 := HBA9.out.cell 0
        have c2 := HBA9.out.cell 1
        simp at k2 k4 b1 b2 c1 c2
        clear HBH
        by_cases h1 : r1 = x1 ∧ r2 = x2
        · obtain rfl : l = [] := by rw [HL.out]; unfold cutOf; rw [if_pos h1]
          have heq : ∀ W : World, (binOp .eql 54 (.agg #[.int .i64 r1, .int .i64 r2]) (.agg #[.int .i64 x1, .int .i64 x2])).run Tryz.prog W = .ok (.bool true) W := fun W => by rw [eqlRun, decide_eq_true h1]
          clear h1
          go_wp2
          go_ret
          exact ⟨none, 0, 0, rfl, rfl, rfl, by omega, fun _ => rfl, fun _ => ⟨rfl, rfl⟩, (fun ad e => by cases e), HO9'.out⟩
        · have heq : ∀ W : World, (binOp .eql 54 (.agg #[.int .i64 r1, .int .i64 r2]) (.agg #[.int .i64 x1, .int .i64 x2])).run Tryz.prog W = .ok (.bool false) W := fun W => by rw [eqlRun, decide_eq_false h1]
          have H1 := Lib.hid h1
          clear h1
          by_cases h2 : r1 = x1
          · have hb0 : (r1 == x1) = true := beq_iff_eq.2 h2
            have H2 : Hid (l = [(x1 + x2, r1 + r2 - (x1 + x2))]) := by show _ = _; rw [HL.out]; unfold cutOf; rw [if_neg H1.out, if_pos h2]
            clear h2
            go_wp2
            go_ret
            refine ⟨_, 1, 1, rfl, by rw [H2.out]; rfl, rfl, by omega, (fun e => by cases e), (fun e => by rw [H2.out] at e; cases e), fun ad e => ⟨_, (Option.some.inj e).symm, HO9'.out.size, ?_⟩, HO9'.out.alloc (fun _ h => h) _⟩
            rw [H2.out]
            exact Blk.new w9 54 [.int .i64 (x1 + x2), .int .i64 (r1 + r2 - (x1 + x2))]
          · have hb0 : (r1 == x1) = false := beq_eq_false_iff_ne.2 h2
            have H2 := Lib.hid h2
            clear h2 b1 b2 c1 c2
            go_wp2_with (fail)
            refine wp_region_held_drew (S := (fun w' => w'.cell? ⟨w.heap.size, 0, none⟩ = some (.int .i64 r1) ∧ w'.cell? ⟨w.heap.size, 0 + 1, none⟩ = some (.int .i64 r2) ∧ w'.cell? ⟨w.heap.size + 1, 0, none⟩ = some (.int .i64 x1) ∧ w'.cell? ⟨w.heap.size + 1, 0 + 1, none⟩ = some (.int .i64 x2))) (by kernel_rfl) (HKEEP9.out _ (Only.refl _ w9).drew) (fun hHeld => ?_)
            refine take_one (i := 0) (d := 36) (oi := ?_) (v := ?_) ?_ (by kernel_rfl) (by kernel_rfl) (by kernel_rfl) (fun _ _ _ h => h) ?_ ?_ ?_ (by assumption) ?_
            case refine_3 => (simp only [List.getElem?_toArray, List.getElem?_cons_zero]; rfl)
            case refine_4 => rfl
            case refine_5 => rfl
            case refine_6 => (intro w' hSw; (try dsimp only at hSw); go_simp; (try with_reducible rfl))
            simp only [Act.put, List.setIfInBounds_toArray, List.set_cons_zero, List.set_cons_succ]
            refine take_one (i := 2) (d := 38) (oi := ?_) (v := ?_) ?_ (by kernel_rfl) (by kernel_rfl) (by kernel_rfl) (fun _ _ _ h => h) ?_ ?_ ?_ (by assumption) ?_
            case refine_3 => (simp only [List.getElem?_toArray, List.getElem?_cons_succ, List.getElem?_cons_zero]; rfl)
            case refine_4 => rfl
            case refine_5 => rfl
            case refine_6 => (intro w' hSw; (try dsimp only at hSw); go_simp; (try with_reducible rfl))
            simp only [Act.put, List.setIfInBounds_toArray, List.set_cons_zero, List.set_cons_succ]
            refine wpAnyH_ready (rs := [1]) (by kernel_rfl) (by simp) ?_
            refine AllReadyH.cons (o := ?_) ?_ (fun K hK => ?_) AllReadyH.nil
            case refine_2 => (simp only [List.getElem?_toArray, List.getElem?_cons_succ, List.getElem?_cons_zero]; rfl)
            go_simp
            (go_at_call 52; (with_reducible refine (HE'.out _).mono ?_); rintro e v4 ⟨rfl, ho4⟩; have hO4 : Only (w9.heap.size ≤ ·) w9 v4 := Only.trans (Only.refl _ w9).drew (ho4.mono fun _ h => h))
            go_wp2_with (fail)
            refine hK.out _ _ (HKEEP9.out _ hO4) (fun hHeld => ?_)
            clear hK K
            try simp only [Act.put, List.setIfInBounds_toArray, List.set_cons_zero, List.set_cons_succ]
            refine wpAnyH_ready (rs := [3]) (by kernel_rfl) (by simp) ?_
            refine AllReadyH.cons (o := ?_) ?_ (fun K hK => ?_) AllReadyH.nil
            case refine_2 => (simp only [List.getElem?_toArray, List.getElem?_cons_succ, List.getElem?_cons_zero]; rfl)
            go_simp
            (go_at_call 52; (with_reducible refine (HE.out _).mono ?_); rintro e v5 ⟨rfl, ho5⟩; have hO5 : Only (w9.heap.size ≤ ·) w9 v5 := hO4.trans (ho5.mono fun k h => Nat.le_trans hO4.size h))
            go_wp2_with (fail)
            refine hK.out _ _ (HKEEP9.out _ hO5) (fun hHeld => ?_)
            clear hK K
            try simp only [Act.put, List.setIfInBounds_toArray, List.set_cons_zero, List.set_cons_succ]
            refine take_one (i := 4) (d := 40) (oi := ?_) (v := ?_) ?_ (by kernel_rfl) (by kernel_rfl) (by kernel_rfl) (fun _ _ _ h => h) ?_ ?_ ?_ (by assumption) ?_
            case refine_3 => (simp only [List.getElem?_toArray, List.getElem?_cons_succ, List.getElem?_cons_zero]; rfl)
            case refine_4 => rfl
            case refine_5 => rfl
            case refine_6 => (intro w' hSw; (try dsimp only at hSw); go_simp; (try with_reducible rfl))
            simp only [Act.put, List.setIfInBounds_toArray, List.set_cons_zero, List.set_cons_succ]
            refine take_one (i := 5) (d := 35) (oi := ?_) (v := ?_) ?_ (by kernel_rfl) (by kernel_rfl) (by kernel_rfl) (fun _ _ _ h => h) ?_ ?_ ?_ (by assumption) ?_
            case refine_3 => (simp only [List.getElem?_toArray, List.getElem?_cons_succ, List.getElem?_cons_zero]; rfl)
            case refine_4 => rfl
            case refine_5 => rfl
            case refine_6 => (intro w' hSw; (try dsimp only at hSw); go_simp; (try with_reducible rfl))
            simp only [Act.put, List.setIfInBounds_toArray, List.set_cons_zero, List.set_cons_succ]
            refine wpAnyH_done (by kernel_rfl) ?_ _
            have HO5' : Hid (Only (w.heap.size ≤ ·) w v5) := on_new HO9'.out hO5
            have d1 := (HBH'.out.later hO5).cell 0
            have d2 := (HBH'.out.later hO5).cell 1
            have e1 := (HBA9.out.later hO5).cell 0
            have e2 := (HBA9.out.later hO5).cell 1
            simp at d1 d2 e1 e2
            clear hHeld hO4 hO5 ho4 ho5 k1 k2 k3 k4 heq
            by_cases h3 : r1 + r2 = x1 + x2
            · have hb1 : (r1 + r2 == x1 + x2) = true := beq_iff_eq.2 h3
              have H3 : Hid (l = [(r1, x1 - r1)]) := by show _ = _; rw [HL.out]; unfold cutOf; rw [if_neg H1.out, if_neg H2.out, if_pos h3]
              clear h3
              go_wp2
              go_ret
              refine ⟨_, 1, 1, rfl, by rw [H3.out]; rfl, rfl, by omega, (fun e => by cases e), (fun e => by rw [H3.out] at e; cases e), fun ad e => ⟨_, (Option.some.inj e).symm, HO5'.out.size, ?_⟩, HO5'.out.alloc (fun _ h => h) _⟩
              rw [H3.out]
              exact Blk.new v5 54 [.int .i64 r1, .int .i64 (x1 - r1)]
            · have hb1 : (r1 + r2 == x1 + x2) = false := beq_eq_false_iff_ne.2 h3
              have H3 : Hid (l = [(r1, x1 - r1), (x1 + x2, r1 + r2 - (x1 + x2))]) := by show _ = _; rw [HL.out]; unfold cutOf; rw [if_neg H1.out, if_neg H2.out, if_neg h3]
              clear h3
              go_wp2
              go_ret
              refine ⟨_, 2, 2, rfl, by rw [H3.out]; rfl, rfl, by omega, (fun e => by cases e), (fun e => by rw [H3.out] at e; cases e), fun ad e => ⟨_, (Option.some.inj e).symm, HO5'.out.size, ?_⟩, HO5'.out.alloc (fun _ h => h) _⟩
              rw [H3.out]
              exact Blk.new v5 54 [.int .i64 r1, .int .i64 (x1 - r1), .int .i64 (x1 + x2), .int .i64 (r1 + r2 - (x1 + x2))]
    case refine_6 =>
      go_simp
      have HNB := Lib.hid (Blk.new w1 54 [.int .i64 0, .int .i64 0])
      have hOA : Only (wz.heap.size ≤ ·) wz (w1.alloc (.cells #[.int .i64 0, .int .i64 0] 54)) := hO1.alloc (fun _ h => h) _
      have HNG : Hid (wz.heap.size ≤ w1.heap.size) := hO1.size
      obtain ⟨nb, hnb⟩ : ∃ nb, nb = w1.heap.size := ⟨_, rfl⟩
      obtain ⟨wa, hwa⟩ : ∃ wa, wa = w1.alloc (.cells #[.int .i64 0, .int .i64 0] 54) := ⟨_, rfl⟩
      rw [← hnb] at HNB HNG
      rw [← hwa] at HNB hOA
      rw [← hwa, ← hnb]
      refine hK.out _ _ (HKEEP.out _ hOA) (fun hHeld => ?_)
      clear hK K hnb hwa
      try simp only [Act.put, List.setIfInBounds_toArray, List.set_cons_zero, List.set_cons_succ]
      refine wpAnyH_ready (rs := [3]) (by kernel_rfl) (by simp) ?_
      refine AllReadyH.cons (o := ?_) ?_ (fun K hK => ?_) AllReadyH.nil
      case refine_2 => (simp only [List.getElem?_toArray, List.getElem?_cons_succ, List.getElem?_cons_zero]; rfl)
      go_simp
      (go_at_call 52; (with_reducible refine (HE'.out _).mono ?_); rintro e w2 ⟨rfl, ho2⟩; have hO2 : Only (wz.heap.size ≤ ·) wz w2 := Only.trans hOA (ho2.mono fun k h => Nat.le_trans (Only.size hOA) h); have HNB := Lib.hid (HNB.out.later ho2))
      go_wp2_with (fail)
      refine hK.out _ _ (HKEEP.out _ hO2) (fun hHeld => ?_)
      clear hK K
      try simp only [Act.put, List.setIfInBounds_toArray, List.set_cons_zero, List.set_cons_succ]
      refine wpAnyH_ready (rs := [5]) (by kernel_rfl) (by simp) ?_
      refine AllReadyH.cons (o := ?_) ?_ (fun K hK => ?_) AllReadyH.nil
      case refine_2 => (simp only [List.getElem?_toArray, List.getElem?_cons_succ, List.getElem?_cons_zero]; rfl)
      go_simp
      (go_at_call 52; (with_reducible refine (HE.out _).mono ?_); rintro e w3 ⟨rfl, ho3⟩; have hO3 : Only (wz.heap.size ≤ ·) wz w3 := Only.trans hO2 (ho3.mono fun k h => Nat.le_trans (Only.size hO2) h); have HNB := Lib.hid (HNB.out.later ho3))
      go_wp2_with (fail)
      refine hK.out _ _ (HKEEP.out _ hO3) (fun hHeld => ?_)
      clear hK K
      try simp only [Act.put, List.setIfInBounds_toArray, List.set_cons_zero, List.set_cons_succ]
      refine take_one (i := 6) (d := 21) (oi := ?_) (v := ?_) ?_ (by kernel_rfl) (by kernel_rfl) (by kernel_rfl) (fun _ _ _ h => h) ?_ ?_ ?_ (by assumption) ?_
      case refine_3 => (simp only [List.getElem?_toArray, List.getElem?_cons_succ, List.getElem?_cons_zero]; rfl)
      case refine_4 => rfl
      case refine_5 => rfl
      case refine_6 => (intro w' hSw; (try dsimp only at hSw); go_simp; (try with_reducible rfl))
      simp only [Act.put, List.setIfInBounds_toArray, List.set_cons_zero, List.set_cons_succ]
      refine take_one (i := 7) (d := 22) (oi := ?_) (v := ?_) ?_ (by kernel_rfl) (by kernel_rfl) (by kernel_rfl) (fun _ _ _ h => h) ?_ ?_ ?_ (by assumption) ?_
      case refine_3 => (simp only [List.getElem?_toArray, List.getElem?_cons_succ, List.getElem?_cons_zero]; rfl)
      case refine_4 => rfl
      case refine_5 => rfl
      case refine_6 => (intro w' hSw; (try dsimp only at hSw); go_simp; (try with_reducible rfl))
      simp only [Act.put, List.setIfInBounds_toArray, List.set_cons_zero, List.set_cons_succ]
      refine wpAnyH_ready (rs := [9]) (by kernel_rfl) (by simp) ?_
      refine AllReadyH.cons (o := ?_) ?_ (fun K hK => ?_) AllReadyH.nil
      case refine_2 => (simp only [List.getElem?_toArray, List.getElem?_cons_succ, List.getElem?_cons_zero]; rfl)
      have hn0 := HNB.out.cell 0
      have hn1 := HNB.out.cell 1
      have hf0 := HNB.out.frozen 0
      have hf1 := HNB.out.frozen 1
      simp at hn0 hn1
      go_simp
      have HBH := Lib.hid ((HNB.out.set_ 0 (.int .i64 (x1 + x2))).set_ 1 (.int .i64 (r1 + r2 - (x1 + x2))))
      have HO9 : Hid (Only (wz.heap.size ≤ ·) wz ((w3.setCell ⟨nb, 0, none⟩ (.int .i64 (x1 + x2))).setCell ⟨nb, 1, none⟩ (.int .i64 (r1 + r2 - (x1 + x2))))) := (hO3.setCell (p := ⟨nb, 0, none⟩) HNG.out _).setCell (p := ⟨nb, 1, none⟩) HNG.out _
      generalize (w3.setCell ⟨nb, 0, none⟩ (.int .i64 (x1 + x2))).setCell ⟨nb, 1, none⟩ (.int .i64 (r1 + r2 - (x1 + x2))) = w9 at HBH HO9 ⊢
      refine hK.out _ _ (HKEEP.out _ HO9.out) (fun hHeld => ?_)
      clear hK K
      try simp only [Act.put, List.setIfInBounds_toArray, List.set_cons_zero, List.set_cons_succ]
      refine wpAnyH_done (by kernel_rfl) ?_ _
      clear hHeld hn0 hn1 hf0 hf1
      have HBH' : Hid (Blk w9 nb 54 [.int .i64 (x1 + x2), .int .i64 (r1 + r2 - (x1 + x2))]) := HBH.out
      have HBA9 := Lib.hid (HBA.out.later HO9.out)
      have HO9' : Hid (Only (w.heap.size ≤ ·) w w9) := on_new HOZ.out HO9.out
      have HKEEP9 : Hid (∀ W : World, Only (w9.heap.size ≤ ·) w9 W → W.cell? ⟨w.heap.size, 0, none⟩ = some (.int .i64 r1) ∧ W.cell? ⟨w.heap.size, 0 + 1, none⟩ = some (.int .i64 r2) ∧ W.cell? ⟨w.heap.size + 1, 0, none⟩ = some (.int .i64 x1) ∧ W.cell? ⟨w.heap.size + 1, 0 + 1, none⟩ = some (.int .i64 x2)) := fun W hW => HKEEP.out W (on_new HO9.out hW)
      obtain ⟨k1, k2, k3, k4⟩ := HKEEP.out _ HO9.out
      have b1 := HBH'.out.cell 0
      have b2 := HBH'.out.cell 1
      have c1 := HBA9.out.cell 0
      have c2 := HBA9.out.cell 1
      simp at k2 k4 b1 b2 c1 c2
      clear HBH
      by_cases h1 : r1 = x1 ∧ r2 = x2
      · obtain rfl : l = [] := by rw [HL.out]; unfold cutOf; rw [if_pos h1]
        have heq : ∀ W : World, (binOp .eql 54 (.agg #[.int .i64 r1, .int .i64 r2]) (.agg #[.int .i64 x1, .int .i64 x2])).run Tryz.prog W = .ok (.bool true) W := fun W => by rw [eqlRun, decide_eq_true h1]
        clear h1
        go_wp2
        go_ret
        exact ⟨none, 0, 0, rfl, rfl, rfl, by omega, fun _ => rfl, fun _ => ⟨rfl, rfl⟩, (fun ad e => by cases e), HO9'.out⟩
      · have heq : ∀ W : World, (binOp .eql 54 (.agg #[.int .i64 r1, .int .i64 r2]) (.agg #[.int .i64 x1, .int .i64 x2])).run Tryz.prog W = .ok (.bool false) W := fun W => by rw [eqlRun, decide_eq_false h1]
        have H1 := Lib.hid h1
        clear h1
        by_cases h2 : r1 = x1
        · have hb0 : (r1 == x1) = true := beq_iff_eq.2 h2
          have H2 : Hid (l = [(x1 + x2, r1 + r2 - (x1 + x2))]) := by show _ = _; rw [HL.out]; unfold cutOf; rw [if_neg H1.out, if_pos h2]
          clear h2
          go_wp2
          go_ret
          refine ⟨_, 1, 1, rfl, by rw [H2.out]; rfl, rfl, by omega, (fun e => by cases e), (fun e => by rw [H2.out] at e; cases e), fun ad e => ⟨_, (Option.some.inj e).symm, HO9'.out.size, ?_⟩, HO9'.out.alloc (fun _ h => h) _⟩
          rw [H2.out]
          exact Blk.new w9 54 [.int .i64 (x1 + x2), .int .i64 (r1 + r2 - (x1 + x2))]
        · have hb0 : (r1 == x1) = false := beq_eq_false_iff_ne.2 h2
          have H2 := Lib.hid h2
          clear h2 b1 b2 c1 c2
          go_wp2_with (fail)
          refine wp_region_held_drew (S := (fun w' => w'.cell? ⟨w.heap.size, 0, none⟩ = some (.int .i64 r1) ∧ w'.cell? ⟨w.heap.size, 0 + 1, none⟩ = some (.int .i64 r2) ∧ w'.cell? ⟨w.heap.size + 1, 0, none⟩ = some (.int .i64 x1) ∧ w'.cell? ⟨w.heap.size + 1, 0 + 1, none⟩ = some (.int .i64 x2))) (by kernel_rfl) (HKEEP9.out _ (Only.refl _ w9).drew) (fun hHeld => ?_)
          refine take_one (i := 0) (d := 36) (oi := ?_) (v := ?_) ?_ (by kernel_rfl) (by kernel_rfl) (by kernel_rfl) (fun _ _ _ h => h) ?_ ?_ ?_ (by assumption) ?_
          case refine_3 => (simp only [List.getElem?_toArray, List.getElem?_cons_zero]; rfl)
          case refine_4 => rfl
          case refine_5 => rfl
          case refine_6 => (intro w' hSw; (try dsimp only at hSw); go_simp; (try with_reducible rfl))
          simp only [Act.put, List.setIfInBounds_toArray, List.set_cons_zero, List.set_cons_succ]
          refine take_one (i := 2) (d := 38) (oi := ?_) (v := ?_) ?_ (by kernel_rfl) (by kernel_rfl) (by kernel_rfl) (fun _ _ _ h => h) ?_ ?_ ?_ (by assumption) ?_
          case refine_3 => (simp only [List.getElem?_toArray, List.getElem?_cons_succ, List.getElem?_cons_zero]; rfl)
          case refine_4 => rfl
          case refine_5 => rfl
          case refine_6 => (intro w' hSw; (try dsimp only at hSw); go_simp; (try with_reducible rfl))
          simp only [Act.put, List.setIfInBounds_toArray, List.set_cons_zero, List.set_cons_succ]
          refine wpAnyH_ready (rs := [1]) (by kernel_rfl) (by simp) ?_
          refine AllReadyH.cons (o := ?_) ?_ (fun K hK => ?_) AllReadyH.nil
          case refine_2 => (simp only [List.getElem?_toArray, List.getElem?_cons_succ, List.getElem?_cons_zero]; rfl)
          go_simp
          (go_at_call 52; (with_reducible refine (HE'.out _).mono ?_); rintro e v4 ⟨rfl, ho4⟩; have hO4 : Only (w9.heap.size ≤ ·) w9 v4 := Only.trans (Only.refl _ w9).drew (ho4.mono fun _ h => h))
          go_wp2_with (fail)
          refine hK.out _ _ (HKEEP9.out _ hO4) (fun hHeld => ?_)
          clear hK K
          try simp only [Act.put, List.setIfInBounds_toArray, List.set_cons_zero, List.set_cons_succ]
          refine wpAnyH_ready (rs := [3]) (by kernel_rfl) (by simp) ?_
          refine AllReadyH.cons (o := ?_) ?_ (fun K hK => ?_) AllReadyH.nil
          case refine_2 => (simp only [List.getElem?_toArray, List.getElem?_cons_succ, List.getElem?_cons_zero]; rfl)
          go_simp
          (go_at_call 52; (with_reducible refine (HE.out _).mono ?_); rintro e v5 ⟨rfl, ho5⟩; have hO5 : Only (w9.heap.size ≤ ·) w9 v5 := hO4.trans (ho5.mono fun k h => Nat.le_trans hO4.size h))
          go_wp2_with (fail)
          refine hK.out _ _ (HKEEP9.out _ hO5) (fun hHeld => ?_)
          clear hK K
          try simp only [Act.put, List.setIfInBounds_toArray, List.set_cons_zero, List.set_cons_succ]
          refine take_one (i := 4) (d := 40) (oi := ?_) (v := ?_) ?_ (by kernel_rfl) (by kernel_rfl) (by kernel_rfl) (fun _ _ _ h => h) ?_ ?_ ?_ (by assumption) ?_
          case refine_3 => (simp only [List.getElem?_toArray, List.getElem?_cons_succ, List.getElem?_cons_zero]; rfl)
          case refine_4 => rfl
          case refine_5 => rfl
          case refine_6 => (intro w' hSw; (try dsimp only at hSw); go_simp; (try with_reducible rfl))
          simp only [Act.put, List.setIfInBounds_toArray, List.set_cons_zero, List.set_cons_succ]
          refine take_one (i := 5) (d := 35) (oi := ?_) (v := ?_) ?_ (by kernel_rfl) (by kernel_rfl) (by kernel_rfl) (fun _ _ _ h => h) ?_ ?_ ?_ (by assumption) ?_
          case refine_3 => (simp only [List.getElem?_toArray, List.getElem?_cons_succ, List.getElem?_cons_zero]; rfl)
          case refine_4 => rfl
          case refine_5 => rfl
          case refine_6 => (intro w' hSw; (try dsimp only at hSw); go_simp; (try with_reducible rfl))
          simp only [Act.put, List.setIfInBounds_toArray, List.set_cons_zero, List.set_cons_succ]
          refine wpAnyH_done (by kernel_rfl) ?_ _
          have HO5' : Hid (Only (w.heap.size ≤ ·) w v5) := on_new HO9'.out hO5
          have d1 := (HBH'.out.later hO5).cell 0
          have d2 := (HBH'.out.later hO5).cell 1
          have e1 := (HBA9.out.later hO5).cell 0
          have e2 := (HBA9.out.later hO5).cell 1
          simp at d1 d2 e1 e2
          clear hHeld hO4 hO5 ho4 ho5 k1 k2 k3 k4 heq
          by_cases h3 : r1 + r2 = x1 + x2
          · have hb1 : (r1 + r2 == x1 + x2) = true := beq_iff_eq.2 h3
            have H3 : Hid (l = [(r1, x1 - r1)]) := by show _ = _; rw [HL.out]; unfold cutOf; rw [if_neg H1.out, if_neg H2.out, if_pos h3]
            clear h3
            go_wp2
            go_ret
            refine ⟨_, 1, 1, rfl, by rw [H3.out]; rfl, rfl, by omega, (fun e => by cases e), (fun e => by rw [H3.out] at e; cases e), fun ad e => ⟨_, (Option.some.inj e).symm, HO5'.out.size, ?_⟩, HO5'.out.alloc (fun _ h => h) _⟩
            rw [H3.out]
            exact Blk.new v5 54 [.int .i64 r1, .int .i64 (x1 - r1)]
          · have hb1 : (r1 + r2 == x1 + x2) = false := beq_eq_false_iff_ne.2 h3
            have H3 : Hid (l = [(r1, x1 - r1), (x1 + x2, r1 + r2 - (x1 + x2))]) := by show _ = _; rw [HL.out]; unfold cutOf; rw [if_neg H1.out, if_neg H2.out, if_neg h3]
            clear h3
            go_wp2
            go_ret
            refine ⟨_, 2, 2, rfl, by rw [H3.out]; rfl, rfl, by omega, (fun e => by cases e), (fun e => by rw [H3.out] at e; cases e), fun ad e => ⟨_, (Option.some.inj e).symm, HO5'.out.size, ?_⟩, HO5'.out.alloc (fun _ h => h) _⟩
            rw [H3.out]
            exact Blk.new v5 54 [.int .i64 r1, .int .i64 (x1 - r1), .int .i64 (x1 + x2), .int .i64 (r1 + r2 - (x1 + x2))]
  case refine_6 =>
    go_simp
    have HNB := Lib.hid (Blk.new w0 54 [.int .i64 0, .int .i64 0])
    have hOA : Only (wz.heap.size ≤ ·) wz (w0.alloc (.cells #[.int .i64 0, .int .i64 0] 54)) := hOW.alloc (fun _ h => h) _
    have HNG : Hid (wz.heap.size ≤ w0.heap.size) := hOW.size
    obtain ⟨nb, hnb⟩ : ∃ nb, nb = w0.heap.size := ⟨_, rfl⟩
    obtain ⟨wa, hwa⟩ : ∃ wa, wa = w0.alloc (.cells #[.int .i64 0, .int .i64 0] 54) := ⟨_, rfl⟩
    rw [← hnb] at HNB HNG
    rw [← hwa] at HNB hOA
    rw [← hwa, ← hnb]
    refine hK.out _ _ (HKEEP.out _ hOA) (fun hHeld => ?_)
    clear hK K hnb hwa
    try simp only [Act.put, List.setIfInBounds_toArray, List.set_cons_zero, List.set_cons_succ]
    refine wpAnyH_ready (rs := [1]) (by kernel_rfl) (by simp) ?_
    refine AllReadyH.cons (o := ?_) ?_ (fun K hK => ?_) AllReadyH.nil
    case refine_2 => (simp only [List.getElem?_toArray, List.getElem?_cons_succ, List.getElem?_cons_zero]; rfl)
    go_simp
    (go_at_call 52; (with_reducible refine (HE.out _).mono ?_); rintro e w1 ⟨rfl, ho1⟩; have hO1 : Only (wz.heap.size ≤ ·) wz w1 := Only.trans hOA (ho1.mono fun k h => Nat.le_trans (Only.size hOA) h); have HNB := Lib.hid (HNB.out.later ho1))
    go_wp2_with (fail)
    refine hK.out _ _ (HKEEP.out _ hO1) (fun hHeld => ?_)
    clear hK K
    try simp only [Act.put, List.setIfInBounds_toArray, List.set_cons_zero, List.set_cons_succ]
    refine wpAnyH_ready (rs := [3]) (by kernel_rfl) (by simp) ?_
    refine AllReadyH.cons (o := ?_) ?_ (fun K hK => ?_) AllReadyH.nil
    case refine_2 => (simp only [List.getElem?_toArray, List.getElem?_cons_succ, List.getElem?_cons_zero]; rfl)
    go_simp
    (go_at_call 52; (with_reducible refine (HE'.out _).mono ?_); rintro e w2 ⟨rfl, ho2⟩; have hO2 : Only (wz.heap.size ≤ ·) wz w2 := Only.trans hO1 (ho2.mono fun k h => Nat.le_trans (Only.size hO1) h); have HNB := Lib.hid (HNB.out.later ho2))
    go_wp2_with (fail)
    refine hK.out _ _ (HKEEP.out _ hO2) (fun hHeld => ?_)
    clear hK K
    try simp only [Act.put, List.setIfInBounds_toArray, List.set_cons_zero, List.set_cons_succ]
    refine wpAnyH_ready (rs := [5]) (by kernel_rfl) (by simp) ?_
    refine AllReadyH.cons (o := ?_) ?_ (fun K hK => ?_) AllReadyH.nil
    case refine_2 => (simp only [List.getElem?_toArray, List.getElem?_cons_succ, List.getElem?_cons_zero]; rfl)
    go_simp
    (go_at_call 52; (with_reducible refine (HE.out _).mono ?_); rintro e w3 ⟨rfl, ho3⟩; have hO3 : Only (wz.heap.size ≤ ·) wz w3 := Only.trans hO2 (ho3.mono fun k h => Nat.le_trans (Only.size hO2) h); have HNB := Lib.hid (HNB.out.later ho3))
    go_wp2_with (fail)
    refine hK.out _ _ (HKEEP.out _ hO3) (fun hHeld => ?_)
    clear hK K
    try simp only [Act.put, List.setIfInBounds_toArray, List.set_cons_zero, List.set_cons_succ]
    refine take_one (i := 6) (d := 21) (oi := ?_) (v := ?_) ?_ (by kernel_rfl) (by kernel_rfl) (by kernel_rfl) (fun _ _ _ h => h) ?_ ?_ ?_ (by assumption) ?_
    case refine_3 => (simp only [List.getElem?_toArray, List.getElem?_cons_succ, List.getElem?_cons_zero]; rfl)
    case refine_4 => rfl
    case refine_5 => rfl
    case refine_6 => (intro w' hSw; (try dsimp only at hSw); go_simp; (try with_reducible rfl))
    simp only [Act.put, List.setIfInBounds_toArray, List.set_cons_zero, List.set_cons_succ]
    refine take_one (i := 7) (d := 22) (oi := ?_) (v := ?_) ?_ (by kernel_rfl) (by kernel_rfl) (by kernel_rfl) (fun _ _ _ h => h) ?_ ?_ ?_ (by assumption) ?_
    case refine_3 => (simp only [List.getElem?_toArray, List.getElem?_cons_succ, List.getElem?_cons_zero]; rfl)
    case refine_4 => rfl
    case refine_5 => rfl
    case refine_6 => (intro w' hSw; (try dsimp only at hSw); go_simp; (try with_reducible rfl))
    simp only [Act.put, List.setIfInBounds_toArray, List.set_cons_zero, List.set_cons_succ]
    refine wpAnyH_ready (rs := [9]) (by kernel_rfl) (by simp) ?_
    refine AllReadyH.cons (o := ?_) ?_ (fun K hK => ?_) AllReadyH.nil
    case refine_2 => (simp only [List.getElem?_toArray, List.getElem?_cons_succ, List.getElem?_cons_zero]; rfl)
    have hn0 := HNB.out.cell 0
    have hn1 := HNB.out.cell 1
    have hf0 := HNB.out.frozen 0
    have hf1 := HNB.out.frozen 1
    simp at hn0 hn1
    go_simp
    have HBH := Lib.hid ((HNB.out.set_ 0 (.int .i64 (x1 + x2))).set_ 1 (.int .i64 (r1 + r2 - (x1 + x2))))
    have HO9 : Hid (Only (wz.heap.size ≤ ·) wz ((w3.setCell ⟨nb, 0, none⟩ (.int .i64 (x1 + x2))).setCell ⟨nb, 1, none⟩ (.int .i64 (r1 + r2 - (x1 + x2))))) := (hO3.setCell (p := ⟨nb, 0, none⟩) HNG.out _).setCell (p := ⟨nb, 1, none⟩) HNG.out _
    generalize (w3.setCell ⟨nb, 0, none⟩ (.int .i64 (x1 + x2))).setCell ⟨nb, 1, none⟩ (.int .i64 (r1 + r2 - (x1 + x2))) = w9 at HBH HO9 ⊢
    refine hK.out _ _ (HKEEP.out _ HO9.out) (fun hHeld => ?_)
    clear hK K
    try simp only [Act.put, List.setIfInBounds_toArray, List.set_cons_zero, List.set_cons_succ]
    refine wpAnyH_done (by kernel_rfl) ?_ _
    clear hHeld hn0 hn1 hf0 hf1
    have HBH' : Hid (Blk w9 nb 54 [.int .i64 (x1 + x2), .int .i64 (r1 + r2 - (x1 + x2))]) := HBH.out
    have HBA9 := Lib.hid (HBA.out.later HO9.out)
    have HO9' : Hid (Only (w.heap.size ≤ ·) w w9) := on_new HOZ.out HO9.out
    have HKEEP9 : Hid (∀ W : World, Only (w9.heap.size ≤ ·) w9 W → W.cell? ⟨w.heap.size, 0, none⟩ = some (.int .i64 r1) ∧ W.cell? ⟨w.heap.size, 0 + 1, none⟩ = some (.int .i64 r2) ∧ W.cell? ⟨w.heap.size + 1, 0, none⟩ = some (.int .i64 x1) ∧ W.cell? ⟨w.heap.size + 1, 0 + 1, none⟩ = some (.int .i64 x2)) := fun W hW => HKEEP.out W (on_new HO9.out hW)
    obtain ⟨k1, k2, k3, k4⟩ := HKEEP.out _ HO9.out
    have b1 := HBH'.out.cell 0
    have b2 := HBH'.out.cell 1
    have c1 := HBA9.out.cell 0
    have c2 := HBA9.out.cell 1
    simp at k2 k4 b1 b2 c1 c2
    clear HBH
    by_cases h1 : r1 = x1 ∧ r2 = x2
    · obtain rfl : l = [] := by rw [HL.out]; unfold cutOf; rw [if_pos h1]
      have heq : ∀ W : World, (binOp .eql 54 (.agg #[.int .i64 r1, .int .i64 r2]) (.agg #[.int .i64 x1, .int .i64 x2])).run Tryz.prog W = .ok (.bool true) W := fun W => by rw [eqlRun, decide_eq_true h1]
      clear h1
      go_wp2
      go_ret
      exact ⟨none, 0, 0, rfl, rfl, rfl, by omega, fun _ => rfl, fun _ => ⟨rfl, rfl⟩, (fun ad e => by cases e), HO9'.out⟩
    · have heq : ∀ W : World, (binOp .eql 54 (.agg #[.int .i64 r1, .int .i64 r2]) (.agg #[.int .i64 x1, .int .i64 x2])).run Tryz.prog W = .ok (.bool false) W := fun W => by rw [eqlRun, decide_eq_false h1]
      have H1 := Lib.hid h1
      clear h1
      by_cases h2 : r1 = x1
      · have hb0 : (r1 == x1) = true := beq_iff_eq.2 h2
        have H2 : Hid (l = [(x1 + x2, r1 + r2 - (x1 + x2))]) := by show _ = _; rw [HL.out]; unfold cutOf; rw [if_neg H1.out, if_pos h2]
        clear h2
        go_wp2
        go_ret
        refine ⟨_, 1, 1, rfl, by rw [H2.out]; rfl, rfl, by omega, (fun e => by cases e), (fun e => by rw [H2.out] at e; cases e), fun ad e => ⟨_, (Option.some.inj e).symm, HO9'.out.size, ?_⟩, HO9'.out.alloc (fun _ h => h) _⟩
        rw [H2.out]
        exact Blk.new w9 54 [.int .i64 (x1 + x2), .int .i64 (r1 + r2 - (x1 + x2))]
      · have hb0 : (r1 == x1) = false := beq_eq_false_iff_ne.2 h2
        have H2 := Lib.hid h2
        clear h2 b1 b2 c1 c2
        go_wp2_with (fail)
        refine wp_region_held_drew (S := (fun w' => w'.cell? ⟨w.heap.size, 0, none⟩ = some (.int .i64 r1) ∧ w'.cell? ⟨w.heap.size, 0 + 1, none⟩ = some (.int .i64 r2) ∧ w'.cell? ⟨w.heap.size + 1, 0, none⟩ = some (.int .i64 x1) ∧ w'.cell? ⟨w.heap.size + 1, 0 + 1, none⟩ = some (.int .i64 x2))) (by kernel_rfl) (HKEEP9.out _ (Only.refl _ w9).drew) (fun hHeld => ?_)
        refine take_one (i := 0) (d := 36) (oi := ?_) (v := ?_) ?_ (by kernel_rfl) (by kernel_rfl) (by kernel_rfl) (fun _ _ _ h => h) ?_ ?_ ?_ (by assumption) ?_
        case refine_3 => (simp only [List.getElem?_toArray, List.getElem?_cons_zero]; rfl)
        case refine_4 => rfl
        case refine_5 => rfl
        case refine_6 => (intro w' hSw; (try dsimp only at hSw); go_simp; (try with_reducible rfl))
        simp only [Act.put, List.setIfInBounds_toArray, List.set_cons_zero, List.set_cons_succ]
        refine take_one (i := 2) (d := 38) (oi := ?_) (v := ?_) ?_ (by kernel_rfl) (by kernel_rfl) (by kernel_rfl) (fun _ _ _ h => h) ?_ ?_ ?_ (by assumption) ?_
        case refine_3 => (simp only [List.getElem?_toArray, List.getElem?_cons_succ, List.getElem?_cons_zero]; rfl)
        case refine_4 => rfl
        case refine_5 => rfl
        case refine_6 => (intro w' hSw; (try dsimp only at hSw); go_simp; (try with_reducible rfl))
        simp only [Act.put, List.setIfInBounds_toArray, List.set_cons_zero, List.set_cons_succ]
        refine wpAnyH_ready (rs := [1]) (by kernel_rfl) (by simp) ?_
        refine AllReadyH.cons (o := ?_) ?_ (fun K hK => ?_) AllReadyH.nil
        case refine_2 => (simp only [List.getElem?_toArray, List.getElem?_cons_succ, List.getElem?_cons_zero]; rfl)
        go_simp
        (go_at_call 52; (with_reducible refine (HE'.out _).mono ?_); rintro e v4 ⟨rfl, ho4⟩; have hO4 : Only (w9.heap.size ≤ ·) w9 v4 := Only.trans (Only.refl _ w9).drew (ho4.mono fun _ h => h))
        go_wp2_with (fail)
        refine hK.out _ _ (HKEEP9.out _ hO4) (fun hHeld => ?_)
        clear hK K
        try simp only [Act.put, List.setIfInBounds_toArray, List.set_cons_zero, List.set_cons_succ]
        refine wpAnyH_ready (rs := [3]) (by kernel_rfl) (by simp) ?_
        refine AllReadyH.cons (o := ?_) ?_ (fun K hK => ?_) AllReadyH.nil
        case refine_2 => (simp only [List.getElem?_toArray, List.getElem?_cons_succ, List.getElem?_cons_zero]; rfl)
        go_simp
        (go_at_call 52; (with_reducible refine (HE.out _).mono ?_); rintro e v5 ⟨rfl, ho5⟩; have hO5 : Only (w9.heap.size ≤ ·) w9 v5 := hO4.trans (ho5.mono fun k h => Nat.le_trans hO4.size h))
        go_wp2_with (fail)
        refine hK.out _ _ (HKEEP9.out _ hO5) (fun hHeld => ?_)
        clear hK K
        try simp only [Act.put, List.setIfInBounds_toArray, List.set_cons_zero, List.set_cons_succ]
        refine take_one (i := 4) (d := 40) (oi := ?_) (v := ?_) ?_ (by kernel_rfl) (by kernel_rfl) (by kernel_rfl) (fun _ _ _ h => h) ?_ ?_ ?_ (by assumption) ?_
        case refine_3 => (simp only [List.getElem?_toArray, List.getElem?_cons_succ, List.getElem?_cons_zero]; rfl)
        case refine_4 => rfl
        case refine_5 => rfl
        case refine_6 => (intro w' hSw; (try dsimp only at hSw); go_simp; (try with_reducible rfl))
        simp only [Act.put, List.setIfInBounds_toArray, List.set_cons_zero, List.set_cons_succ]
        refine take_one (i := 5) (d := 35) (oi := ?_) (v := ?_) ?_ (by kernel_rfl) (by kernel_rfl) (by kernel_rfl) (fun _ _ _ h => h) ?_ ?_ ?_ (by assumption) ?_
        case refine_3 => (simp only [List.getElem?_toArray, List.getElem?_cons_succ, List.getElem?_cons_zero]; rfl)
        case refine_4 => rfl
        case refine_5 => rfl
        case refine_6 => (intro w' hSw; (try dsimp only at hSw); go_simp; (try with_reducible rfl))
        simp only [Act.put, List.setIfInBounds_toArray, List.set_cons_zero, List.set_cons_succ]
        refine wpAnyH_done (by kernel_rfl) ?_ _
        have HO5' : Hid (Only (w.heap.size ≤ ·) w v5) := on_new HO9'.out hO5
        have d1 := (HBH'.out.later hO5).cell 0
        have d2 := (HBH'.out.later hO5).cell 1
        have e1 := (HBA9.out.later hO5).cell 0
        have e2 := (HBA9.out.later hO5).cell 1
        simp at d1 d2 e1 e2
        clear hHeld hO4 hO5 ho4 ho5 k1 k2 k3 k4 heq
        by_cases h3 : r1 + r2 = x1 + x2
        · have hb1 : (r1 + r2 == x1 + x2) = true := beq_iff_eq.2 h3
          have H3 : Hid (l = [(r1, x1 - r1)]) := by show _ = _; rw [HL.out]; unfold cutOf; rw [if_neg H1.out, if_neg H2.out, if_pos h3]
          clear h3
          go_wp2
          go_ret
          refine ⟨_, 1, 1, rfl, by rw [H3.out]; rfl, rfl, by omega, (fun e => by cases e), (fun e => by rw [H3.out] at e; cases e), fun ad e => ⟨_, (Option.some.inj e).symm, HO5'.out.size, ?_⟩, HO5'.out.alloc (fun _ h => h) _⟩
          rw [H3.out]
          exact Blk.new v5 54 [.int .i64 r1, .int .i64 (x1 - r1)]
        · have hb1 : (r1 + r2 == x1 + x2) = false := beq_eq_false_iff_ne.2 h3
          have H3 : Hid (l = [(r1, x1 - r1), (x1 + x2, r1 + r2 - (x1 + x2))]) := by show _ = _; rw [HL.out]; unfold cutOf; rw [if_neg H1.out, if_neg H2.out, if_neg h3]
          clear h3
          go_wp2
          go_ret
          refine ⟨_, 2, 2, rfl, by rw [H3.out]; rfl, rfl, by omega, (fun e => by cases e), (fun e => by rw [H3.out] at e; cases e), fun ad e => ⟨_, (Option.some.inj e).symm, HO5'.out.size, ?_⟩, HO5'.out.alloc (fun _ h => h) _⟩
          rw [H3.out]
          exact Blk.new v5 54 [.int .i64 r1, .int .i64 (x1 - r1), .int .i64 (x1 + x2), .int .i64 (r1 + r2 - (x1 + x2))]
end Go.Proofs.YtmadlckladohbaaGreat
