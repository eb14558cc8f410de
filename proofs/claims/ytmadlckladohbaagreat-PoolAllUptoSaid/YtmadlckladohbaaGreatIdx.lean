/-
  whole, the closures of Drop and Take, slices.IndexFunc.
-/
import Derived.Test.YtmadlckladohbaaGreatUnio
import Derived.Test.YtmadlckladohbaaGreatRref
set_option linter.unusedVariables false
namespace Go.Proofs.YtmadlckladohbaaGreat
open Go.RowKit

def whole (r x : R) : Bool := decide (r.1 ≤ x.1 ∧ x.1 + x.2 ≤ r.1 + r.2)
theorem whole_iff (r x : R) : whole r x = true ↔ r.1 ≤ x.1 ∧ x.1 + x.2 ≤ r.1 + r.2 := by simp [whole]

set_option maxRecDepth 100000 in
set_option maxHeartbeats 3200000 in
theorem whole_c (w : World) (r x : R) (hr : may r = true) (hx : may x = true) :
    Calls Tryz.prog 70 #[.agg #[.int .i64 r.1, .int .i64 r.2], .agg #[.int .i64 x.1, .int .i64 x.2]] w (Told w (.bool (whole r x))) := by
  have hmr := (may_iff r).1 hr
  have hmx := (may_iff x).1 hx
  obtain ⟨b, hb⟩ : ∃ b, b = whole r x := ⟨_, rfl⟩
  have HB : Hid (b = true ↔ r.1 ≤ x.1 ∧ x.1 + x.2 ≤ r.1 + r.2) := by rw [hb]; exact whole_iff r x
  rw [← hb]
  clear hb hr hx
  obtain ⟨r1, r2⟩ := r
  obtain ⟨x1, x2⟩ := x
  simp only at hmr hmx HB
  have HE : Hid (∀ W : World, Calls Tryz.prog 52 #[.agg #[.int .i64 x1, .int .i64 x2]] W fun e w' => e = .returned (.int .i64 (x1 + x2)) ∧ Only (W.heap.size ≤ ·) W w') := fun W => end_c W x1 x2 (by omega) (by omega)
  have HE' : Hid (∀ W : World, Calls Tryz.prog 52 #[.agg #[.int .i64 r1, .int .i64 r2]] W fun e w' => e = .returned (.int .i64 (r1 + r2)) ∧ Only (W.heap.size ≤ ·) W w') := fun W => end_c W r1 r2 (by omega) (by omega)
  obtain ⟨wz, hwz⟩ : ∃ wz, wz = (w.alloc (.cells #[.int .i64 r1, .int .i64 r2] 54)).alloc (.cells #[.int .i64 x1, .int .i64 x2] 54) := ⟨_, rfl⟩
  have HBR : Hid (Blk wz w.heap.size 54 [.int .i64 r1, .int .i64 r2]) := by rw [hwz]; exact (Blk.new w 54 [.int .i64 r1, .int .i64 r2]).alloc _
  have HBX : Hid (Blk wz (w.heap.size + 1) 54 [.int .i64 x1, .int .i64 x2]) := by
    have := Blk.new (w.alloc (.cells #[.int .i64 r1, .int .i64 r2] 54)) 54 [.int .i64 x1, .int .i64 x2]
    rw [hwz]; exact Lib.hid (by simpa using this)
  have HOZ : Hid (Only (w.heap.size ≤ ·) w wz) := by rw [hwz]; exact ((Only.refl _ w).alloc (fun _ h => h) _).alloc (fun _ h => h) _
  have HKEEP : Hid (∀ W : World, Only (wz.heap.size ≤ ·) wz W → W.cell? ⟨w.heap.size, 0, none⟩ = some (.int .i64 r1) ∧ W.cell? ⟨w.heap.size, 0 + 1, none⟩ = some (.int .i64 r2) ∧ W.cell? ⟨w.heap.size + 1, 0, none⟩ = some (.int .i64 x1) ∧ W.cell? ⟨w.heap.size + 1, 0 + 1, none⟩ = some (.int .i64 x2)) := fun W hW => ⟨(HBR.out.later hW).cell 0, (HBR.out.later hW).cell 1, (HBX.out.later hW).cell 0, (HBX.out.later hW).cell 1⟩
  have HWZ := Lib.hid hwz
  clear hwz
  by_cases h1 : r1 ≤ x1
  · have hd1 : decide (r1 ≤ x1) = true := decide_eq_true h1
    go_enter Tryz.func70, Tryz.ntmps70
    go_wp2_with (fail)
    rw [← HWZ.out]
    clear HBR HBX
    refine wp_region_held_drew (S := (fun w' => w'.cell? ⟨w.heap.size, 0, none⟩ = some (.int .i64 r1) ∧ w'.cell? ⟨w.heap.size, 0 + 1, none⟩ = some (.int .i64 r2) ∧ w'.cell? ⟨w.heap.size + 1, 0, none⟩ = some (.int .i64 x1) ∧ w'.cell? ⟨w.heap.size + 1, 0 + 1, none⟩ = some (.int .i64 x2))) (by kernel_rfl) (HKEEP.out _ (Only.refl _ wz).drew) (fun hHeld => ?_)
    refine take_one (i := 0) (d := 5) (oi := ?_) (v := ?_) ?_ (by kernel_rfl) (by kernel_rfl) (by kernel_rfl) (fun _ _ _ h => h) ?_ ?_ ?_ (by assumption) ?_
    case refine_3 => (simp only [List.getElem?_toArray, List.getElem?_cons_zero]; rfl)
    case refine_4 => rfl
    case refine_5 => rfl
    case refine_6 => (intro w' hSw; (try dsimp only at hSw); go_simp; (try with_reducible rfl))
    simp only [Act.put, List.setIfInBounds_toArray, List.set_cons_zero, List.set_cons_succ]
    refine take_one (i := 1) (d := 6) (oi := ?_) (v := ?_) ?_ (by kernel_rfl) (by kernel_rfl) (by kernel_rfl) (fun _ _ _ h => h) ?_ ?_ ?_ (by assumption) ?_
    case refine_3 => (simp only [List.getElem?_toArray, List.getElem?_cons_succ, List.getElem?_cons_zero]; rfl)
    case refine_4 => rfl
    case refine_5 => rfl
    case refine_6 => (intro w' hSw; (try dsimp only at hSw); go_simp; (try with_reducible rfl))
    simp only [Act.put, List.setIfInBounds_toArray, List.set_cons_zero, List.set_cons_succ]
    refine take_one (i := 2) (d := 7) (oi := ?_) (v := ?_) ?_ (by kernel_rfl) (by kernel_rfl) (by kernel_rfl) (fun _ _ _ h => h) ?_ ?_ ?_ (by assumption) ?_
    case refine_3 => (simp only [List.getElem?_toArray, List.getElem?_cons_succ, List.getElem?_cons_zero]; rfl)
    case refine_4 => rfl
    case refine_5 => rfl
    case refine_6 => (intro w' hSw; (try dsimp only at hSw); go_simp; (try with_reducible rfl))
    simp only [Act.put, List.setIfInBounds_toArray, List.set_cons_zero, List.set_cons_succ]
    refine take_one (i := 3) (d := 8) (oi := ?_) (v := ?_) ?_ (by kernel_rfl) (by kernel_rfl) (by kernel_rfl) (fun _ _ _ h => h) ?_ ?_ ?_ (by assumption) ?_
    case refine_3 => (simp only [List.getElem?_toArray, List.getElem?_cons_succ, List.getElem?_cons_zero]; rfl)
    case refine_4 => rfl
    case refine_5 => rfl
    case refine_6 => (intro w' hSw; (try dsimp only at hSw); go_simp; (try with_reducible rfl))
    simp only [Act.put, List.setIfInBounds_toArray, List.set_cons_zero, List.set_cons_succ]
    refine take_one (i := 4) (d := 9) (oi := ?_) (v := ?_) ?_ (by kernel_rfl) (by kernel_rfl) (by kernel_rfl) (fun _ _ _ h => h) ?_ ?_ ?_ (by assumption) ?_
    case refine_3 => (simp only [List.getElem?_toArray, List.getElem?_cons_succ, List.getElem?_cons_zero]; rfl)
    case refine_4 => rfl
    case refine_5 => rfl
    case refine_6 => (intro w' hSw; (try dsimp only at hSw); go_simp; (try with_reducible rfl))
    simp only [Act.put, List.setIfInBounds_toArray, List.set_cons_zero, List.set_cons_succ]
    refine take_one (i := 5) (d := 10) (oi := ?_) (v := ?_) ?_ (by kernel_rfl) (by kernel_rfl) (by kernel_rfl) (fun _ _ _ h => h) ?_ ?_ ?_ (by assumption) ?_
    case refine_3 => (simp only [List.getElem?_toArray, List.getElem?_cons_succ, List.getElem?_cons_zero]; rfl)
    case refine_4 => rfl
    case refine_5 => rfl
    case refine_6 => (intro w' hSw; (try dsimp only at hSw); go_simp; (try with_reducible rfl))
    simp only [Act.put, List.setIfInBounds_toArray, List.set_cons_zero, List.set_cons_succ]
    refine take_one (i := 6) (d := 11) (oi := ?_) (v := ?_) ?_ (by kernel_rfl) (by kernel_rfl) (by kernel_rfl) (fun _ _ _ h => h) ?_ ?_ ?_ (by assumption) ?_
    case refine_3 => (simp only [List.getElem?_toArray, List.getElem?_cons_succ, List.getElem?_cons_zero]; rfl)
    case refine_4 => rfl
    case refine_5 => rfl
    case refine_6 => (intro w' hSw; (try dsimp only at hSw); go_simp; (try with_reducible rfl))
    simp only [Act.put, List.setIfInBounds_toArray, List.set_cons_zero, List.set_cons_succ]
    refine take_one (i := 8) (d := 13) (oi := ?_) (v := ?_) ?_ (by kernel_rfl) (by kernel_rfl) (by kernel_rfl) (fun _ _ _ h => h) ?_ ?_ ?_ (by assumption) ?_
    case refine_3 => (simp only [List.getElem?_toArray, List.getElem?_cons_succ, List.getElem?_cons_zero]; rfl)
    case refine_4 => rfl
    case refine_5 => rfl
    case refine_6 => (intro w' hSw; (try dsimp only at hSw); go_simp; (try with_reducible rfl))
    simp only [Act.put, List.setIfInBounds_toArray, List.set_cons_zero, List.set_cons_succ]
    refine wpAnyH_ready (rs := [7]) (by kernel_rfl) (by simp) ?_
    refine AllReadyH.cons (o := ?_) ?_ (fun K hK => ?_) AllReadyH.nil
    case refine_2 => (simp only [List.getElem?_toArray, List.getElem?_cons_succ, List.getElem?_cons_zero]; rfl)
    go_simp
    (go_at_call 52; (with_reducible refine (HE.out _).mono ?_); rintro e w4 ⟨rfl, ho4⟩; have hO4 : Only (wz.heap.size ≤ ·) wz w4 := Only.trans (Only.refl _ wz).drew (ho4.mono fun _ h => h))
    go_wp2_with (fail)
    refine hK.out _ _ (HKEEP.out _ hO4) (fun hHeld => ?_)
    clear hK K
    try simp only [Act.put, List.setIfInBounds_toArray, List.set_cons_zero, List.set_cons_succ]
    refine wpAnyH_ready (rs := [9]) (by kernel_rfl) (by simp) ?_
    refine AllReadyH.cons (o := ?_) ?_ (fun K hK => ?_) AllReadyH.nil
    case refine_2 => (simp only [List.getElem?_toArray, List.getElem?_cons_succ, List.getElem?_cons_zero]; rfl)
    go_simp
    (go_at_call 52; (with_reducible refine (HE'.out _).mono ?_); rintro e w5 ⟨rfl, ho5⟩; have hO5 : Only (wz.heap.size ≤ ·) wz w5 := hO4.trans (ho5.mono fun k h => Nat.le_trans hO4.size h))
    go_wp2_with (fail)
    refine hK.out _ _ (HKEEP.out _ hO5) (fun hHeld => ?_)
    clear hK K
    try simp only [Act.put, List.setIfInBounds_toArray, List.set_cons_zero, List.set_cons_succ]
    refine take_one (i := 10) (d := 15) (oi := ?_) (v := ?_) ?_ (by kernel_rfl) (by kernel_rfl) (by kernel_rfl) (fun _ _ _ h => h) ?_ ?_ ?_ (by assumption) ?_
    case refine_3 => (simp only [List.getElem?_toArray, List.getElem?_cons_succ, List.getElem?_cons_zero]; rfl)
    case refine_4 => rfl
    case refine_5 => rfl
    case refine_6 => (intro w' hSw; (try dsimp only at hSw); go_simp; (try with_reducible rfl))
    simp only [Act.put, List.setIfInBounds_toArray, List.set_cons_zero, List.set_cons_succ]
    refine take_one (i := 11) (d := 16) (oi := ?_) (v := ?_) ?_ (by kernel_rfl) (by kernel_rfl) (by kernel_rfl) (fun _ _ _ h => h) ?_ ?_ ?_ (by assumption) ?_
    case refine_3 => (simp only [List.getElem?_toArray, List.getElem?_cons_succ, List.getElem?_cons_zero]; rfl)
    case refine_4 => rfl
    case refine_5 => rfl
    case refine_6 => (intro w' hSw; (try dsimp only at hSw); go_simp; (try with_reducible rfl))
    simp only [Act.put, List.setIfInBounds_toArray, List.set_cons_zero, List.set_cons_succ]
    refine take_one (i := 12) (d := 4) (oi := ?_) (v := ?_) ?_ (by kernel_rfl) (by kernel_rfl) (by kernel_rfl) (fun _ _ _ h => h) ?_ ?_ ?_ (by assumption) ?_
    case refine_3 => (simp only [List.getElem?_toArray, List.getElem?_cons_succ, List.getElem?_cons_zero]; rfl)
    case refine_4 => rfl
    case refine_5 => rfl
    case refine_6 => (intro w' hSw; (try dsimp only at hSw); go_simp; (try with_reducible rfl))
    simp only [Act.put, List.setIfInBounds_toArray, List.set_cons_zero, List.set_cons_succ]
    refine wpAnyH_done (by kernel_rfl) ?_ _
    have HO5 : Hid (Only (w.heap.size ≤ ·) w w5) := on_new HOZ.out hO5
    clear hHeld hO4 hO5 ho4 ho5
    by_cases h2 : x1 + x2 ≤ r1 + r2
    · obtain rfl : b = true := HB.out.2 ⟨h1, h2⟩
      go_wp2
      go_ret
      exact ⟨by simp, HO5.out⟩
    · obtain rfl : b = false := by rw [← Bool.not_eq_true]; intro h; exact h2 (HB.out.1 h).2
      go_wp2
      go_ret
      exact ⟨by simp [h2], HO5.out⟩
  · obtain rfl : b = false := by rw [← Bool.not_eq_true]; intro h; exact h1 (HB.out.1 h).1
    have hd1 : decide (r1 ≤ x1) = false := decide_eq_false h1
    go_enter Tryz.func70, Tryz.ntmps70
    go_wp2_with (fail)
    go_quiet (fail)
    go_wp2
    go_ret
    exact ⟨rfl, by rw [HWZ.out] at HOZ; exact HOZ.out.drewN _⟩

/-- Which is the first of which that holds. -/
def IdxSays (w : World) (p : R → Bool) (l : List R) (e : Ending) (w' : World) : Prop := (∃ r : Int, e = .returned (.int .i64 r) ∧ ((r = -1 ∧ ∀ x ∈ l, p x = false) ∨ ∃ (k : Nat) (x : R), r = k ∧ l[k]? = some x ∧ p x = true ∧ ∀ j y, j < k → l[j]? = some y → p y = false)) ∧ Only (w.heap.size ≤ ·) w w'

set_option maxRecDepth 100000 in
set_option maxHeartbeats 3200000 in
theorem IndexFunc_Drop1 (w : World) (A : Option Addr) (n c bx : Nat) (p : R → Bool) (l : List R) (h : Rs w A l) (hl : l.length = n) (hn : n ≤ 9223372036854775807)
    (HC : ∀ (W : World) (x : R), x ∈ l → Only (w.heap.size ≤ ·) w W → Calls Tryz.prog 69 #[.agg #[.int .i64 x.1, .int .i64 x.2], .pointer (some ⟨bx, 0, none⟩)] W (Told W (.bool (p x)))) :
    Calls Tryz.prog 55 #[.slice A n c, .func (.func 69) #[] #[.pointer (some ⟨bx, 0, none⟩)]] w (IdxSays w p l) := by
  have HS := Lib.hid h
  have HL := Lib.hid hl
  have HCC := Lib.hid HC
  clear h hl HC
  go_enter Tryz.func55, Tryz.ntmps55
  go_wp2
  go_loopw [8] (fun i wr => ∃ (k : Nat), k ≤ n ∧ i = .int .i64 k ∧ Hid (∀ j y, j < k → l[j]? = some y → p y = false) ∧ Only (w.heap.size ≤ ·) w wr) (fun i _ => n - (intOf i).toNat)
  case atStart => exact ⟨0, Nat.zero_le _, rfl, fun j y hj => absurd hj (Nat.not_lt_zero _), Only.refl _ _⟩
  case round =>
    obtain ⟨k, hk, rfl, HK, ho⟩ := hrel
    have HO := Lib.hid ho
    clear ho
    by_cases hlt : k < n
    · obtain ⟨g, off, x, rfl, hg, hx, hc1, hc2⟩ := (HS.out.later HO.out).at_ (k := k) (by rw [HL.out]; exact hlt)
      have HX := Lib.hid hx
      have HCX := Lib.hid (HCC.out wr x (List.mem_of_getElem? hx) HO.out)
      obtain ⟨b, hb⟩ : ∃ b, b = p x := ⟨_, rfl⟩
      rw [← hb] at HCX
      have HP := Lib.hid hb
      have hk0 : (0 : Int) ≤ (k : Int) := by omega
      have hkn : (k : Int) < (n : Int) := by omega
      obtain ⟨x1, x2⟩ := x
      clear hx hb
      cases b
      · go_wp2_with (go_at_call 69; refine HCX.out.mono ?_; rintro e w1 ⟨rfl, ho1⟩; have HO1 := Lib.hid (on_new HO.out ho1); clear ho1)
        go_roundw
        case rel =>
          refine ⟨k + 1, by omega, by go_num, Lib.hid (fun j y hj hy => ?_), HO1.out⟩
          rcases Nat.lt_or_ge j k with hjk | hjk
          · exact HK.out j y hjk hy
          · obtain rfl : j = k := by omega
            rw [HX.out] at hy
            cases hy
            exact HP.out.symm
        case measure => simp [intOf]; omega
      · go_wp2_with (go_at_call 69; refine HCX.out.mono ?_; rintro e w1 ⟨rfl, ho1⟩; have HO1 := Lib.hid (on_new HO.out ho1); clear ho1)
        go_ret
        exact ⟨⟨_, rfl, .inr ⟨k, _, rfl, HX.out, HP.out.symm, HK.out⟩⟩, HO1.out⟩
    · obtain rfl : k = n := by omega
      have hkm : ¬ (k : Int) < (k : Int) := by omega
      go_wp2
      go_ret
      refine ⟨⟨_, rfl, .inl ⟨rfl, fun x hx => ?_⟩⟩, HO.out⟩
      obtain ⟨j, hj⟩ := List.mem_iff_getElem?.1 hx
      have hjl := (List.getElem?_eq_some_iff.1 hj).1
      exact HK.out j x (by rw [← HL.out]; exact hjl) hj

set_option maxRecDepth 100000 in
set_option maxHeartbeats 3200000 in
theorem IndexFunc_Take1 (w : World) (A : Option Addr) (n c bx : Nat) (p : R → Bool) (l : List R) (h : Rs w A l) (hl : l.length = n) (hn : n ≤ 9223372036854775807)
    (HC : ∀ (W : World) (x : R), x ∈ l → Only (w.heap.size ≤ ·) w W → Calls Tryz.prog 56 #[.agg #[.int .i64 x.1, .int .i64 x.2], .pointer (some ⟨bx, 0, none⟩)] W (Told W (.bool (p x)))) :
    Calls Tryz.prog 55 #[.slice A n c, .func (.func 56) #[] #[.pointer (some ⟨bx, 0, none⟩)]] w (IdxSays w p l) := by
  have HS := Lib.hid h
  have HL := Lib.hid hl
  have HCC := Lib.hid HC
  clear h hl HC
  go_enter Tryz.func55, Tryz.ntmps55
  go_wp2
  go_loopw [8] (fun i wr => ∃ (k : Nat), k ≤ n ∧ i = .int .i64 k ∧ Hid (∀ j y, j < k → l[j]? = some y → p y = false) ∧ Only (w.heap.size ≤ ·) w wr) (fun i _ => n - (intOf i).toNat)
  case atStart => exact ⟨0, Nat.zero_le _, rfl, fun j y hj => absurd hj (Nat.not_lt_zero _), Only.refl _ _⟩
  case round =>
    obtain ⟨k, hk, rfl, HK, ho⟩ := hrel
    have HO := Lib.hid ho
    clear ho
    by_cases hlt : k < n
    · obtain ⟨g, off, x, rfl, hg, hx, hc1, hc2⟩ := (HS.out.later HO.out).at_ (k := k) (by rw [HL.out]; exact hlt)
      have HX := Lib.hid hx
      have HCX := Lib.hid (HCC.out wr x (List.mem_of_getElem? hx) HO.out)
      obtain ⟨b, hb⟩ : ∃ b, b = p x := ⟨_, rfl⟩
      rw [← hb] at HCX
      have HP := Lib.hid hb
      have hk0 : (0 : Int) ≤ (k : Int) := by omega
      have hkn : (k : Int) < (n : Int) := by omega
      obtain ⟨x1, x2⟩ := x
      clear hx hb
      cases b
      · go_wp2_with (go_at_call 56; refine HCX.out.mono ?_; rintro e w1 ⟨rfl, ho1⟩; have HO1 := Lib.hid (on_new HO.out ho1); clear ho1)
        go_roundw
        case rel =>
          refine ⟨k + 1, by omega, by go_num, Lib.hid (fun j y hj hy => ?_), HO1.out⟩
          rcases Nat.lt_or_ge j k with hjk | hjk
          · exact HK.out j y hjk hy
          · obtain rfl : j = k := by omega
            rw [HX.out] at hy
            cases hy
            exact HP.out.symm
        case measure => simp [intOf]; omega
      · go_wp2_with (go_at_call 56; refine HCX.out.mono ?_; rintro e w1 ⟨rfl, ho1⟩; have HO1 := Lib.hid (on_new HO.out ho1); clear ho1)
        go_ret
        exact ⟨⟨_, rfl, .inr ⟨k, _, rfl, HX.out, HP.out.symm, HK.out⟩⟩, HO1.out⟩
    · obtain rfl : k = n := by omega
      have hkm : ¬ (k : Int) < (k : Int) := by omega
      go_wp2
      go_ret
      refine ⟨⟨_, rfl, .inl ⟨rfl, fun x hx => ?_⟩⟩, HO.out⟩
      obtain ⟨j, hj⟩ := List.mem_iff_getElem?.1 hx
      have hjl := (List.getElem?_eq_some_iff.1 hj).1
      exact HK.out j x (by rw [← HL.out]; exact hjl) hj

set_option maxRecDepth 100000 in
set_option maxHeartbeats 1600000 in
theorem Drop1_c (w : World) (bx : Nat) (r x : R) (hr : may r = true) (hx : may x = true) (hb : Blk w bx 54 [.int .i64 x.1, .int .i64 x.2]) :
    Calls Tryz.prog 69 #[.agg #[.int .i64 r.1, .int .i64 r.2], .pointer (some ⟨bx, 0, none⟩)] w (Told w (.bool (whole r x))) := by
  have HW : Hid (∀ W : World, Calls Tryz.prog 70 #[.agg #[.int .i64 r.1, .int .i64 r.2], .agg #[.int .i64 x.1, .int .i64 x.2]] W (Told W (.bool (whole r x)))) := fun W => whole_c W r x hr hx
  generalize whole r x = b at *
  obtain ⟨r1, r2⟩ := r
  obtain ⟨x1, x2⟩ := x
  have hb1 := hb.alloc (.cells #[.int .i64 r1, .int .i64 r2] 54)
  have q1 := hb1.cell 0
  have q2 := hb1.cell 1
  simp at q1 q2
  clear hr hx hb hb1
  go_enter Tryz.func69, Tryz.ntmps69
  go_wp2_with (go_at_call 70; refine (HW.out _).mono ?_; rintro e w1 ⟨rfl, ho1⟩; have HO1 := Lib.hid (on_new ((Only.refl _ w).alloc (fun _ h => h) (.cells #[.int .i64 r1, .int .i64 r2] 54)) ho1); clear ho1)
  go_ret
  exact ⟨rfl, HO1.out⟩

set_option maxRecDepth 100000 in
set_option maxHeartbeats 1600000 in
theorem Take1_c (w : World) (bx : Nat) (r : R) (m : Int) (hb : Blk w bx 3 [.int .i64 m]) :
    Calls Tryz.prog 56 #[.agg #[.int .i64 r.1, .int .i64 r.2], .pointer (some ⟨bx, 0, none⟩)] w (Told w (.bool (decide (m ≤ r.2)))) := by
  obtain ⟨r1, r2⟩ := r
  have hb1 := hb.alloc (.cells #[.int .i64 r1, .int .i64 r2] 54)
  have q1 := hb1.cell 0
  simp at q1
  clear hb hb1
  by_cases h : m ≤ r2
  all_goals
    go_enter Tryz.func56, Tryz.ntmps56
    go_wp2
    go_ret
    exact ⟨by simp [h], (Only.refl _ w).alloc (fun _ h => h) _⟩
end Go.Proofs.YtmadlckladohbaaGreat
