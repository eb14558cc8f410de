/-
  Take and Add of the program.
-/
import Derived.Test.YtmadlckladohbaaGreatDrop
set_option linter.unusedVariables false
namespace Go.Proofs.YtmadlckladohbaaGreat
open Go.RowKit

theorem may_i64 {r : R} (h : may r = true) : I64 r := by
  have := (may_iff r).1 h
  unfold I64
  omega
theorem known_i64 (l : List R) : ∀ y ∈ known l, I64 y := fun y hy => may_i64 (right_may (known_right l) y hy)
theorem known_known (l : List R) : known (known l) = known l := known_of (known_right l)

/-- What Take tells. -/
def TakeTells (l : List R) (m : Int) (at_ : Int) (b : Bool) (u : List R) : Prop :=
  (b = false ∧ at_ = 0 ∧ (m < 1 ∨ ∀ r ∈ known l, r.2 < m) ∧ u = known l) ∨
  (b = true ∧ 1 ≤ m ∧ ∃ (k : Nat) (r : R), (known l)[k]? = some r ∧ m ≤ r.2 ∧ (∀ j y, j < k → (known l)[j]? = some y → y.2 < m) ∧ at_ = r.1 ∧ IsRow u (fun p => Mem l p ∧ ¬ within (r.1, m) p))
def TakeSays (w : World) (l : List R) (m : Int) (e : Ending) (w' : World) : Prop := ∃ at_ v n u b, e = .returned (.tuple #[.int .i64 at_, v, .bool b]) ∧ OwnN w' w.heap.size v n u ∧ TakeTells l m at_ b u ∧ Only (w.heap.size ≤ ·) w w'

set_option maxRecDepth 100000 in
set_option maxHeartbeats 6400000 in
theorem Take_c (w : World) (v : Value) (l : List R) (m : Int) (h : Row w v l) (hr : ∀ y ∈ l, I64 y) :
    Calls Tryz.prog 37 #[v, .int .i64 m] w (TakeSays w l m) := by
  obtain ⟨bx, hbx⟩ : ∃ bx, bx = w.heap.size := ⟨_, rfl⟩
  obtain ⟨wx, hwx⟩ : ∃ wx, wx = w.alloc (.cells #[.int .i64 m] 3) := ⟨_, rfl⟩
  have HBX : Hid (Blk wx bx 3 [.int .i64 m]) := by rw [hwx, hbx]; exact Blk.new w _ _
  have HOX : Hid (Only (w.heap.size ≤ ·) w wx) := by rw [hwx]; exact (Only.refl _ w).alloc (fun _ h => h) _
  have HK : Hid (Calls Tryz.prog 46 #[v] wx (KnownRow wx l)) := knowsRow_c wx v l (h.later HOX.out) hr
  have HLN : Hid ((known l).length ≤ 32768) := right_length (known_right l)
  have HWX : Hid (wx = w.alloc (.cells #[.int .i64 m] 3) ∧ bx = w.heap.size) := ⟨hwx, hbx⟩
  clear h hr hwx hbx
  by_cases hm : m < 1
  · go_enter Tryz.func37, Tryz.ntmps37
    go_wp2_with (fail)
    rw [← HWX.out.1, ← HWX.out.2]
    go_wp2_with (first | (go_at_call 46; (with_reducible refine HK.out.mono ?_); rintro e w1 ⟨⟨A, n, c, rfl, hv⟩, ho1⟩; have HO1 := Lib.hid ho1; have HV := Lib.hid hv; have HB1 := Lib.hid (HBX.out.later ho1); have HN : Hid (n = (known l).length ∧ Rs w1 A (known l)) := (by obtain ⟨A', c', e, h1, _⟩ := hv; cases e; exact ⟨rfl, h1⟩); clear ho1 hv) | (go_at_call 55; refine (IndexFunc_Take1 w1 A n c bx (fun y => decide (m ≤ y.2)) (known l) HN.out.2 HN.out.1.symm (by have := HLN.out; have := HN.out.1; omega) (fun W y hy hW => Take1_c W bx y m (HB1.out.later hW))).mono ?_; rintro e w4 ⟨⟨ri, rfl, hri⟩, ho4⟩; have HRI := Lib.hid hri; have HO4 := Lib.hid (on_new HO1.out ho4); have HV4 := Lib.hid (HV.out.later ho4); have hb4 := HB1.out.later ho4; have HB4 := Lib.hid hb4; have hq1 := hb4.cell 0; simp at hq1; have HN4 := Lib.hid (HN.out.2.later ho4); clear ho4 hri hb4) | (go_at_call 27; refine (Clone_c _ _ _ HV4.out (by have := HLN.out; omega)).mono ?_; rintro e w5 ⟨v5, n5, rfl, hc, ho5⟩; have HC5 := Lib.hid hc; have HO5 := Lib.hid (on_new HO4.out ho5); have HS4 := Lib.hid HO4.out.size; clear ho5 hc))
    go_ret3
    exact ⟨0, _, n5, _, false, rfl, HC5.out.weaken (Nat.le_trans HOX.out.size HS4.out), .inl ⟨rfl, rfl, .inl hm, rfl⟩, on_new HOX.out HO5.out⟩
  · go_enter Tryz.func37, Tryz.ntmps37
    go_wp2_with (fail)
    rw [← HWX.out.1, ← HWX.out.2]
    go_wp2_with (first | (go_at_call 46; (with_reducible refine HK.out.mono ?_); rintro e w1 ⟨⟨A, n, c, rfl, hv⟩, ho1⟩; have HO1 := Lib.hid ho1; have HV := Lib.hid hv; have HB1 := Lib.hid (HBX.out.later ho1); have HN : Hid (n = (known l).length ∧ Rs w1 A (known l)) := (by obtain ⟨A', c', e, h1, _⟩ := hv; cases e; exact ⟨rfl, h1⟩); clear ho1 hv) | (go_at_call 55; refine (IndexFunc_Take1 w1 A n c bx (fun y => decide (m ≤ y.2)) (known l) HN.out.2 HN.out.1.symm (by have := HLN.out; have := HN.out.1; omega) (fun W y hy hW => Take1_c W bx y m (HB1.out.later hW))).mono ?_; rintro e w4 ⟨⟨ri, rfl, hri⟩, ho4⟩; have HRI := Lib.hid hri; have HO4 := Lib.hid (on_new HO1.out ho4); have HV4 := Lib.hid (HV.out.later ho4); have hb4 := HB1.out.later ho4; have HB4 := Lib.hid hb4; have hq1 := hb4.cell 0; simp at hq1; have HN4 := Lib.hid (HN.out.2.later ho4); clear ho4 hri hb4))
    · refine (Clone_c _ _ _ HV4.out (by have := HLN.out; omega)).mono ?_
      rintro e w5 ⟨v5, n5, rfl, hc, ho5⟩
      have HC5 := Lib.hid hc
      have HO5 := Lib.hid (on_new HO4.out ho5)
      have HS4 := Lib.hid HO4.out.size
      have hall : ∀ y ∈ known l, y.2 < m := by
        rcases HRI.out with ⟨_, h⟩ | ⟨k, y, h, _⟩
        · intro y hy; have := h y hy; simpa using this
        · omega
      have HALL := Lib.hid hall
      clear ho5 hc hall
      go_wp2
      go_ret3
      exact ⟨0, _, n5, _, false, rfl, HC5.out.weaken (Nat.le_trans HOX.out.size HS4.out), .inl ⟨rfl, rfl, .inr HALL.out, rfl⟩, on_new HOX.out HO5.out⟩
    · obtain ⟨k, r, hrk, hkr, hmr, hbef⟩ : ∃ (k : Nat) (r : R), ri = k ∧ (known l)[k]? = some r ∧ m ≤ r.2 ∧ ∀ j y, j < k → (known l)[j]? = some y → y.2 < m := by
        rcases HRI.out with ⟨h, _⟩ | ⟨k, y, h1, h2, h3, h4⟩
        · omega
        · exact ⟨k, y, h1, h2, by simpa using h3, fun j z hj hz => by have := h4 j z hj hz; simpa using this⟩
      subst hrk
      have HKR := Lib.hid (And.intro hkr (And.intro hmr hbef))
      have hrm := right_may (known_right l) r (List.mem_of_getElem? hkr)
      have hr' := (may_iff r).1 hrm
      obtain ⟨g, off, r0, rfl, hg, hr0, hc1, hc2⟩ := HN4.out.at_ (k := k) (List.getElem?_eq_some_iff.1 hkr).1
      rw [hkr] at hr0
      cases hr0
      have hmx : may (r.1, m) = true := (may_iff _).2 ⟨by simp only; omega, by simp only; omega, by simp only; omega⟩
      have hwh : whole r (r.1, m) = true := (whole_iff _ _).2 ⟨by simp only; omega, by simp only; omega⟩
      have HDC : Hid (∀ W : World, Only (w4.heap.size ≤ ·) w4 W → Calls Tryz.prog 57 #[.slice (some ⟨g, off, none⟩) n c, .agg #[.int .i64 r.1, .int .i64 m]] W fun e w' => ∃ v n u, e = .returned (.tuple #[v, .bool true]) ∧ OwnN w' W.heap.size v n u ∧ IsRow u (fun p => Mem l p ∧ ¬ within (r.1, m) p) ∧ Only (W.heap.size ≤ ·) W w') := fun W hW =>
        (Drop_c W _ (known l) (r.1, m) (HV4.out.later hW) (known_i64 l) (may_i64 hmx)).mono fun e w' ⟨v, n, u, b, h1, h2, h3, h4, h5⟩ => by
          obtain rfl : b = true := h3.2 ⟨hmx, r, by rw [known_known]; exact List.mem_of_getElem? hkr, hwh⟩
          refine ⟨v, n, u, h1, h2, h4.congr fun p => ?_, h5⟩
          unfold Mem
          rw [known_known]
          exact ⟨fun h => ⟨h.1, fun hh => h.2 ⟨rfl, hh⟩⟩, fun h => ⟨h.1, fun hh => h.2 hh.2⟩⟩
      have hlen := HN.out.1
      have hkn : k < n := by have := (List.getElem?_eq_some_iff.1 hkr).1; omega
      have hk0 : (0 : Int) ≤ (k : Int) := by omega
      have hkn' : (k : Int) < (n : Int) := by omega
      have HKEEP : Hid (∀ W : World, Only (w4.heap.size ≤ ·) w4 W → W.cell? ⟨g, off + k * 2, none⟩ = some (.int .i64 r.1) ∧ W.cell? ⟨bx, 0, none⟩ = some (.int .i64 m)) := fun W hW => ⟨(hW.cell (p := ⟨g, off + k * 2, none⟩) (Nat.not_le.2 hg)).trans hc1, (HB4.out.later hW).cell 0⟩
      have HS4 := Lib.hid HO4.out.size
      obtain ⟨r1, r2⟩ := r
      simp only at HDC HKEEP
      clear hkr hmr hbef hrm hr' hmx hwh hlen hc1 hc2 HRI hg
      refine wp_region_held_drew (S := (fun w' => w'.cell? ⟨g, off + k * 2, none⟩ = some (.int .i64 r1) ∧ w'.cell? ⟨bx, 0, none⟩ = some (.int .i64 m))) (by kernel_rfl) (HKEEP.out _ (Only.refl _ w4).drew) (fun hHeld => ?_)
      refine take_one (i := 0) (d := 22) (oi := ?_) (v := ?_) ?_ (by kernel_rfl) (by kernel_rfl) (by kernel_rfl) (fun _ _ _ h => h) ?_ ?_ ?_ (by assumption) ?_
      case refine_3 => (simp only [List.getElem?_toArray, List.getElem?_cons_zero]; rfl)
      case refine_4 => rfl
      case refine_5 => rfl
      case refine_6 => (intro w' hSw; (try dsimp only at hSw); go_simp; (try with_reducible rfl))
      simp only [Act.put, List.setIfInBounds_toArray, List.set_cons_zero, List.set_cons_succ]
      refine take_one (i := 1) (d := 23) (oi := ?_) (v := ?_) ?_ (by kernel_rfl) (by kernel_rfl) (by kernel_rfl) (fun _ _ _ h => h) ?_ ?_ ?_ (by assumption) ?_
      case refine_3 => (simp only [List.getElem?_toArray, List.getElem?_cons_succ, List.getElem?_cons_zero]; rfl)
      case refine_4 => rfl
      case refine_5 => rfl
      case refine_6 => (intro w' hSw; (try dsimp only at hSw); go_simp; (try with_reducible rfl))
      simp only [Act.put, List.setIfInBounds_toArray, List.set_cons_zero, List.set_cons_succ]
      refine take_one (i := 2) (d := 24) (oi := ?_) (v := ?_) ?_ (by kernel_rfl) (by kernel_rfl) (by kernel_rfl) (fun _ _ _ h => h) ?_ ?_ ?_ (by assumption) ?_
      case refine_3 => (simp only [List.getElem?_toArray, List.getElem?_cons_succ, List.getElem?_cons_zero]; rfl)
      case refine_4 => rfl
      case refine_5 => rfl
      case refine_6 => (intro w' hSw; (try dsimp only at hSw); go_simp; (try with_reducible rfl))
      simp only [Act.put, List.setIfInBounds_toArray, List.set_cons_zero, List.set_cons_succ]
      refine take_one (i := 3) (d := 25) (oi := ?_) (v := ?_) ?_ (by kernel_rfl) (by kernel_rfl) (by kernel_rfl) (fun _ _ _ h => h) ?_ ?_ ?_ (by assumption) ?_
      case refine_3 => (simp only [List.getElem?_toArray, List.getElem?_cons_succ, List.getElem?_cons_zero]; rfl)
      case refine_4 => rfl
      case refine_5 => rfl
      case refine_6 => (intro w' hSw; (try dsimp only at hSw); go_simp; (try with_reducible rfl))
      simp only [Act.put, List.setIfInBounds_toArray, List.set_cons_zero, List.set_cons_succ]
      refine take_one (i := 4) (d := 26) (oi := ?_) (v := ?_) ?_ (by kernel_rfl) (by kernel_rfl) (by kernel_rfl) (fun _ _ _ h => h) ?_ ?_ ?_ (by assumption) ?_
      case refine_3 => (simp only [List.getElem?_toArray, List.getElem?_cons_succ, List.getElem?_cons_zero]; rfl)
      case refine_4 => rfl
      case refine_5 => rfl
      case refine_6 => (intro w' hSw; (try dsimp only at hSw); go_simp; (try with_reducible rfl))
      simp only [Act.put, List.setIfInBounds_toArray, List.set_cons_zero, List.set_cons_succ]
      refine take_one (i := 5) (d := 27) (oi := ?_) (v := ?_) ?_ (by kernel_rfl) (by kernel_rfl) (by kernel_rfl) (fun _ _ _ h => h) ?_ ?_ ?_ (by assumption) ?_
      case refine_3 => (simp only [List.getElem?_toArray, List.getElem?_cons_succ, List.getElem?_cons_zero]; rfl)
      case refine_4 => rfl
      case refine_5 => rfl
      case refine_6 => (intro w' hSw; (try dsimp only at hSw); go_simp; (try with_reducible rfl))
      simp only [Act.put, List.setIfInBounds_toArray, List.set_cons_zero, List.set_cons_succ]
      refine take_one (i := 6) (d := 28) (oi := ?_) (v := ?_) ?_ (by kernel_rfl) (by kernel_rfl) (by kernel_rfl) (fun _ _ _ h => h) ?_ ?_ ?_ (by assumption) ?_
      case refine_3 => (simp only [List.getElem?_toArray, List.getElem?_cons_succ, List.getElem?_cons_zero]; rfl)
      case refine_4 => rfl
      case refine_5 => rfl
      case refine_6 => (intro w' hSw; (try dsimp only at hSw); go_simp; (try with_reducible rfl))
      simp only [Act.put, List.setIfInBounds_toArray, List.set_cons_zero, List.set_cons_succ]
      refine take_one (i := 7) (d := 29) (oi := ?_) (v := ?_) ?_ (by kernel_rfl) (by kernel_rfl) (by kernel_rfl) (fun _ _ _ h => h) ?_ ?_ ?_ (by assumption) ?_
      case refine_3 => (simp only [List.getElem?_toArray, List.getElem?_cons_succ, List.getElem?_cons_zero]; rfl)
      case refine_4 => rfl
      case refine_5 => rfl
      case refine_6 => (intro w' hSw; (try dsimp only at hSw); go_simp; (try with_reducible rfl))
      simp only [Act.put, List.setIfInBounds_toArray, List.set_cons_zero, List.set_cons_succ]
      refine wpAnyH_ready (rs := [8]) (by kernel_rfl) (by simp) ?_
      refine AllReadyH.cons (o := ?_) ?_ (fun K hK => ?_) AllReadyH.nil
      case refine_2 => (simp only [List.getElem?_toArray, List.getElem?_cons_succ, List.getElem?_cons_zero]; rfl)
      go_simp
      (go_at_call 57; refine (HDC.out _ (Only.refl _ w4).drew).mono ?_; rintro e w5 ⟨v5, n5, u5, rfl, hv5, hu5, ho5⟩; have hO5 : Only (w4.heap.size ≤ ·) w4 w5 := Only.trans (Only.refl _ w4).drew (ho5.mono fun _ h => h); have HV5 : Hid (OwnN w5 w4.heap.size v5 n5 u5) := hv5; have HU5 := Lib.hid hu5; clear hv5 hu5 ho5)
      go_wp2_with (fail)
      refine hK.out _ _ (HKEEP.out _ hO5) (fun hHeld => ?_)
      clear hK K
      try simp only [Act.put, List.setIfInBounds_toArray, List.set_cons_zero, List.set_cons_succ]
      refine take_one (i := 9) (d := 21) (oi := ?_) (v := ?_) ?_ (by kernel_rfl) (by kernel_rfl) (by kernel_rfl) (fun _ _ _ h => h) ?_ ?_ ?_ (by assumption) ?_
      case refine_3 => (simp only [List.getElem?_toArray, List.getElem?_cons_succ, List.getElem?_cons_zero]; rfl)
      case refine_4 => rfl
      case refine_5 => rfl
      case refine_6 => (intro w' hSw; (try dsimp only at hSw); go_simp; (try with_reducible rfl))
      simp only [Act.put, List.setIfInBounds_toArray, List.set_cons_zero, List.set_cons_succ]
      refine take_one (i := 10) (d := 31) (oi := ?_) (v := ?_) ?_ (by kernel_rfl) (by kernel_rfl) (by kernel_rfl) (fun _ _ _ h => h) ?_ ?_ ?_ (by assumption) ?_
      case refine_3 => (simp only [List.getElem?_toArray, List.getElem?_cons_succ, List.getElem?_cons_zero]; rfl)
      case refine_4 => rfl
      case refine_5 => rfl
      case refine_6 => (intro w' hSw; (try dsimp only at hSw); go_simp; (try with_reducible rfl))
      simp only [Act.put, List.setIfInBounds_toArray, List.set_cons_zero, List.set_cons_succ]
      refine take_one (i := 11) (d := 32) (oi := ?_) (v := ?_) ?_ (by kernel_rfl) (by kernel_rfl) (by kernel_rfl) (fun _ _ _ h => h) ?_ ?_ ?_ (by assumption) ?_
      case refine_3 => (simp only [List.getElem?_toArray, List.getElem?_cons_succ, List.getElem?_cons_zero]; rfl)
      case refine_4 => rfl
      case refine_5 => rfl
      case refine_6 => (intro w' hSw; (try dsimp only at hSw); go_simp; (try with_reducible rfl))
      simp only [Act.put, List.setIfInBounds_toArray, List.set_cons_zero, List.set_cons_succ]
      refine take_one (i := 12) (d := 5) (oi := ?_) (v := ?_) ?_ (by kernel_rfl) (by kernel_rfl) (by kernel_rfl) (fun _ _ _ h => h) ?_ ?_ ?_ (by assumption) ?_
      case refine_3 => (simp only [List.getElem?_toArray, List.getElem?_cons_succ, List.getElem?_cons_zero]; rfl)
      case refine_4 => rfl
      case refine_5 => rfl
      case refine_6 => (intro w' hSw; (try dsimp only at hSw); go_simp; (try with_reducible rfl))
      simp only [Act.put, List.setIfInBounds_toArray, List.set_cons_zero, List.set_cons_succ]
      refine take_one (i := 13) (d := 6) (oi := ?_) (v := ?_) ?_ (by kernel_rfl) (by kernel_rfl) (by kernel_rfl) (fun _ _ _ h => h) ?_ ?_ ?_ (by assumption) ?_
      case refine_3 => (simp only [List.getElem?_toArray, List.getElem?_cons_succ, List.getElem?_cons_zero]; rfl)
      case refine_4 => rfl
      case refine_5 => rfl
      case refine_6 => (intro w' hSw; (try dsimp only at hSw); go_simp; (try with_reducible rfl))
      simp only [Act.put, List.setIfInBounds_toArray, List.set_cons_zero, List.set_cons_succ]
      refine wpAnyH_done (by kernel_rfl) ?_ _
      have HO5 := Lib.hid hO5
      obtain ⟨hz1, hz2⟩ := HKEEP.out _ hO5
      clear hHeld hO5
      go_wp2
      go_ret3
      exact ⟨_, _, n5, u5, true, rfl, HV5.out.weaken (Nat.le_trans HOX.out.size HS4.out), .inr ⟨rfl, by omega, k, _, HKR.out.1, HKR.out.2.1, HKR.out.2.2, rfl, HU5.out⟩, on_new HOX.out (on_new HO4.out HO5.out)⟩
def AddSays (w : World) (l : List R) (x : R) (e : Ending) (w' : World) : Prop := ∃ v n u b, e = .returned (.tuple #[v, .bool b]) ∧ OwnN w' w.heap.size v n u ∧ (b = true ↔ may x = true ∧ ∀ p, Mem l p → ¬ within x p) ∧ IsRow u (fun p => Mem l p ∨ (b = true ∧ within x p)) ∧ Only (w.heap.size ≤ ·) w w'
theorem single_right {x : R} (h : may x = true) : right [x] = true := right_cons.2 ⟨h, rfl⟩
theorem single_inn (x : R) (p : Int) : inn [x] p = true ↔ within x p := by rw [inn_cons]; simp [inn]

end Go.Proofs.YtmadlckladohbaaGreat
