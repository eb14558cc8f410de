/-
  Drop of the program.
-/
import Derived.Test.YtmadlckladohbaaGreatRepl
import Derived.Test.YtmadlckladohbaaGreatDrpp
set_option linter.unusedVariables false
namespace Go.Proofs.YtmadlckladohbaaGreat
open Go.RowKit

theorem Repl_c {w : World} {B n k : Nat} {v : Value} {l vs : List R} (h : OwnN w B v n l) (hk : k < n) (hn : n ≤ 32768) (hB : B ≤ w.heap.size) {A : Option Addr} {m c : Nat} (hm : m = vs.length) (hc : c = m) (hc2 : c ≤ 2) (hnil : vs = [] → A = none ∧ c = 0) (hA0 : A = none → c = 0)
    (hA : ∀ ad, A = some ad → ∃ gv, ad = ⟨gv, 0, none⟩ ∧ (∀ g', v.ownBlock = some g' → gv ≠ g') ∧ Blk w gv 54 (rc vs)) :
    Calls Tryz.prog 71 #[v, .int .i64 k, .int .i64 ((k : Int) + 1), .slice A m c] w (Lays w B (l.take k ++ vs ++ l.drop (k + 1))) := by
  obtain ⟨g, cap, rfl⟩ := Joins.ownsRow_form h.2 (by omega)
  obtain ⟨rest, hb, hrl, hnc, hcm, hBg⟩ := blk_of_own h
  subst hc
  cases A with
  | none =>
    have h0 := hA0 rfl
    subst h0
    obtain rfl : vs = [] := List.eq_nil_of_length_eq_zero hm.symm
    rcases Nat.lt_or_ge (k + 1) n with hlt | hge
    · obtain ⟨d, rfl⟩ : ∃ d, n = k + 1 + d := ⟨n - (k + 1), by omega⟩
      exact Repl0m h (by omega) hn hB
    · obtain rfl : n = k + 1 := by omega
      exact Repl0e h hn hB
  | some ad =>
    obtain ⟨gv, rfl, hgv, hv⟩ := hA ad rfl
    have hgg := hgv g rfl
    have h0 : 0 < c := by
      rcases Nat.eq_zero_or_pos c with h0 | h0
      · have := (hnil (List.eq_nil_of_length_eq_zero (by omega))).1; cases this
      · exact h0
    rcases Nat.lt_or_ge (k + 1) n with hlt | hge
    · obtain ⟨d, rfl⟩ : ∃ d, n = k + 1 + d := ⟨n - (k + 1), by omega⟩
      rcases (by omega : c = 1 ∨ c = 2) with rfl | rfl
      · exact Repl1m h (by omega) hn hB hv hm.symm hgg
      · rcases Nat.lt_or_ge cap (k + 2 + d) with hcap | hcap
        · exact Repl2g h (by omega) hn hB hv hm.symm hcap
        · exact Repl2f h (by omega) hn hB hv hm.symm hgg hcap
    · obtain rfl : n = k + 1 := by omega
      obtain ⟨m, rfl⟩ : ∃ m, c = m + 1 := ⟨c - 1, by omega⟩
      exact Repl2e h hn hB hv hm.symm (by omega)

def DropSays (w : World) (l : List R) (x : R) (e : Ending) (w' : World) : Prop := ∃ v n u b, e = .returned (.tuple #[v, .bool b]) ∧ OwnN w' w.heap.size v n u ∧ (b = true ↔ may x = true ∧ ∃ r ∈ known l, whole r x = true) ∧ IsRow u (fun p => Mem l p ∧ ¬ (b = true ∧ within x p)) ∧ Only (w.heap.size ≤ ·) w w'

set_option maxRecDepth 100000 in
set_option maxHeartbeats 6400000 in
theorem Drop_c (w : World) (v : Value) (l : List R) (x : R) (h : Row w v l) (hr : ∀ y ∈ l, I64 y) (hx : I64 x) :
    Calls Tryz.prog 57 #[v, .agg #[.int .i64 x.1, .int .i64 x.2]] w (DropSays w l x) := by
  have hx2 := hx.2.1
  obtain ⟨x1, x2⟩ := x
  simp only at hx2
  obtain ⟨bx, hbx⟩ : ∃ bx, bx = w.heap.size := ⟨_, rfl⟩
  obtain ⟨wx, hwx⟩ : ∃ wx, wx = w.alloc (.cells #[.int .i64 x1, .int .i64 x2] 54) := ⟨_, rfl⟩
  have HBX : Hid (Blk wx bx 54 [.int .i64 x1, .int .i64 x2]) := by rw [hwx, hbx]; exact Blk.new w _ _
  have HOX : Hid (Only (w.heap.size ≤ ·) w wx) := by rw [hwx]; exact (Only.refl _ w).alloc (fun _ h => h) _
  have HK : Hid (Calls Tryz.prog 46 #[v] wx (KnownRow wx l)) := knowsRow_c wx v l (h.later HOX.out) hr
  have HLN : Hid ((known l).length ≤ 32768) := right_length (known_right l)
  have HMC : Hid (∀ W : World, Calls Tryz.prog 68 #[.agg #[.int .i64 x1, .int .i64 x2]] W fun e w' => e = .returned (.bool (may (x1, x2))) ∧ Only (W.heap.size ≤ ·) W w') := fun W => mayBe_c W x1 x2 hx2
  have HWX : Hid (wx = w.alloc (.cells #[.int .i64 x1, .int .i64 x2] 54) ∧ bx = w.heap.size) := ⟨hwx, hbx⟩
  clear h hr hx hwx hbx
  obtain ⟨m, hm⟩ : ∃ m, m = may (x1, x2) := ⟨_, rfl⟩
  rw [← hm] at HMC
  have HM := Lib.hid hm
  clear hm
  cases m
  · go_enter Tryz.func57, Tryz.ntmps57
    go_wp2_with (fail)
    rw [← HWX.out.1, ← HWX.out.2]
    go_wp2_with (first | (go_at_call 46; (with_reducible refine HK.out.mono ?_); rintro e w1 ⟨⟨A, n, c, rfl, hv⟩, ho1⟩; have HO1 := Lib.hid ho1; have HV := Lib.hid hv; have HB1 := Lib.hid (HBX.out.later ho1); clear ho1 hv) | (go_at_call 27; refine (Clone_c _ _ _ HV.out (by have := HLN.out; omega)).mono ?_; rintro e w2 ⟨v2, n2, rfl, hc, ho2⟩; have HC := Lib.hid hc; have HO2 := Lib.hid (on_new HO1.out ho2); have hbb := HB1.out.later ho2; have hq1 := hbb.cell 0; have hq2 := hbb.cell 1; simp at hq1 hq2; have HS1 := Lib.hid HO1.out.size; clear ho2 hc hbb) | (go_at_call 68; refine (HMC.out _).mono ?_; rintro e w3 ⟨rfl, ho3⟩; have HO3 := Lib.hid (on_new HO2.out ho3); have HC3 := Lib.hid (HC.out.later ho3); clear ho3))
    go_ret2
    refine ⟨_, n2, _, false, rfl, HC3.out.weaken (Nat.le_trans HOX.out.size HS1.out), ⟨(fun h => by cases h), (fun h => by rw [← HM.out] at h; cases h.1)⟩, (known_isRow l).congr fun p => ⟨fun h => ⟨h, (fun hh => by cases hh.1)⟩, fun h => h.1⟩, on_new HOX.out HO3.out⟩
  · have HDC : Hid (∀ (W : World) (y : R), y ∈ known l → Blk W bx 54 [.int .i64 x1, .int .i64 x2] → Calls Tryz.prog 69 #[.agg #[.int .i64 y.1, .int .i64 y.2], .pointer (some ⟨bx, 0, none⟩)] W (Told W (.bool (whole y (x1, x2))))) := fun W y hy hb => Drop1_c W bx y (x1, x2) (right_may (known_right l) y hy) HM.out.symm hb
    go_enter Tryz.func57, Tryz.ntmps57
    go_wp2_with (fail)
    rw [← HWX.out.1, ← HWX.out.2]
    go_wp2_with (first | (go_at_call 46; (with_reducible refine HK.out.mono ?_); rintro e w1 ⟨⟨A, n, c, rfl, hv⟩, ho1⟩; have HO1 := Lib.hid ho1; have HV := Lib.hid hv; have HB1 := Lib.hid (HBX.out.later ho1); clear ho1 hv) | (go_at_call 27; refine (Clone_c _ _ _ HV.out (by have := HLN.out; omega)).mono ?_; rintro e w2 ⟨v2, n2, rfl, hc, ho2⟩; obtain ⟨A2, c2, rfl⟩ := hc.slice; have HC := Lib.hid hc; have HO2 := Lib.hid (on_new HO1.out ho2); have hbb := HB1.out.later ho2; have HB2 := Lib.hid hbb; have hq1 := hbb.cell 0; have hq2 := hbb.cell 1; simp at hq1 hq2; have HS1 := Lib.hid HO1.out.size; clear ho2 hc hbb) | (go_at_call 68; refine (HMC.out _).mono ?_; rintro e w3 ⟨rfl, ho3⟩; have HO3 := Lib.hid (on_new HO2.out ho3); have HC3 := Lib.hid (HC.out.later ho3); have HB3 := Lib.hid (HB2.out.later ho3); clear ho3 hq1 hq2) | (go_at_call 55; refine (IndexFunc_Drop1 w3 A2 n2 c2 bx (fun y => whole y (x1, x2)) (known l) HC3.out.rs.1 HC3.out.1.symm (by have := HLN.out; have := HC3.out.1; omega) (fun W y hy hW => HDC.out W y hy (HB3.out.later hW))).mono ?_; rintro e w4 ⟨⟨ri, rfl, hri⟩, ho4⟩; have HRI := Lib.hid hri; have HO4 := Lib.hid (on_new HO3.out ho4); have HC4 := Lib.hid (HC3.out.later ho4); have HB4 := Lib.hid (HB3.out.later ho4); clear ho4 hri))
    · have hall : ∀ y ∈ known l, whole y (x1, x2) = false := by
        rcases HRI.out with ⟨_, h⟩ | ⟨k, y, h, _⟩
        · exact h
        · omega
      have HALL := Lib.hid hall
      clear hall
      go_ret2
      refine ⟨_, n2, _, false, rfl, HC4.out.weaken (Nat.le_trans HOX.out.size HS1.out), ⟨(fun h => by cases h), (fun ⟨_, y, hy, hw⟩ => by rw [HALL.out y hy] at hw; cases hw)⟩, (known_isRow l).congr fun p => ⟨fun h => ⟨h, (fun hh => by cases hh.1)⟩, fun h => h.1⟩, on_new HOX.out HO4.out⟩
    · obtain ⟨k, r, hrk, hkr, hwh⟩ : ∃ (k : Nat) (r : R), ri = k ∧ (known l)[k]? = some r ∧ whole r (x1, x2) = true := by
        rcases HRI.out with ⟨h, _⟩ | ⟨k, y, h1, h2, h3, _⟩
        · omega
        · exact ⟨k, y, h1, h2, h3⟩
      subst hrk
      clear HRI HDC
      have hlen := HC4.out.1
      have hkn : k < n2 := by have := (List.getElem?_eq_some_iff.1 hkr).1; omega
      have hn2 : n2 ≤ 32768 := by have := HLN.out; omega
      obtain ⟨g, off, r', rfl, hg, hr', hc1, hc2⟩ := HC4.out.rs.1.at_ (k := k) (by omega)
      rw [hkr] at hr'
      cases hr'
      have HDR := Lib.hid (drop_row (known_right l) hkr HM.out.symm hwh)
      have HNW : Hid (may (x1, x2) = true ∧ ∃ r ∈ known l, whole r (x1, x2) = true) := ⟨HM.out.symm, r, List.mem_of_getElem? hkr, hwh⟩
      have hown := World.ownsRow.lt HC4.out.2 g rfl
      have HCU : Hid (∀ W : World, Calls Tryz.prog 72 #[.agg #[.int .i64 r.1, .int .i64 r.2], .agg #[.int .i64 x1, .int .i64 x2]] W (NewRow W (cutOf r (x1, x2)))) := fun W => cut_c W r (x1, x2) (right_may (known_right l) r (List.mem_of_getElem? hkr)) HM.out.symm hwh
      have hk0 : (0 : Int) ≤ (k : Int) := by omega
      have hkn' : (k : Int) < (n2 : Int) := by omega
      have aw : IntKind.i64.wrap ((k : Int) + 1) = (k : Int) + 1 := IntWalk.i64_in _ (by omega)
      have hq := HB4.out
      have hq1 := hq.cell 0
      have hq2 := hq.cell 1
      simp at hq1 hq2
      generalize cutOf r (x1, x2) = cs at HDR HCU
      obtain ⟨r1, r2⟩ := r
      simp only at hc1 hc2 HCU
      have HR4 : Hid (k < n2 ∧ n2 ≤ 32768 ∧ w1.heap.size ≤ w4.heap.size) := ⟨hkn, hn2, by omega⟩
      have HGL : Hid (g < w4.heap.size) := hg
      clear hkr hwh hlen hq
      refine wp_region_held_drew (S := (fun _ => True)) (by kernel_rfl) trivial (fun hHeld => ?_)
      refine take_one (i := 0) (d := 21) (oi := ?_) (v := ?_) ?_ (by kernel_rfl) (by kernel_rfl) (by kernel_rfl) (fun _ _ _ h => h) ?_ ?_ ?_ (by assumption) ?_
      case refine_3 => (simp only [List.getElem?_toArray, List.getElem?_cons_zero]; rfl)
      case refine_4 => rfl
      case refine_5 => rfl
      case refine_6 => (intro w' hSw; (try dsimp only at hSw); go_simp; (try with_reducible rfl))
      simp only [Act.put, List.setIfInBounds_toArray, List.set_cons_zero, List.set_cons_succ]
      refine take_one (i := 1) (d := 22) (oi := ?_) (v := ?_) ?_ (by kernel_rfl) (by kernel_rfl) (by kernel_rfl) (fun _ _ _ h => h) ?_ ?_ ?_ (by assumption) ?_
      case refine_3 => (simp only [List.getElem?_toArray, List.getElem?_cons_succ, List.getElem?_cons_zero]; rfl)
      case refine_4 => rfl
      case refine_5 => rfl
      case refine_6 => (intro w' hSw; (try dsimp only at hSw); go_simp; (try with_reducible rfl))
      simp only [Act.put, List.setIfInBounds_toArray, List.set_cons_zero, List.set_cons_succ]
      refine take_one (i := 2) (d := 23) (oi := ?_) (v := ?_) ?_ (by kernel_rfl) (by kernel_rfl) (by kernel_rfl) (fun _ _ _ h => h) ?_ ?_ ?_ (by assumption) ?_
      case refine_3 => (simp only [List.getElem?_toArray, List.getElem?_cons_succ, List.getElem?_cons_zero]; rfl)
      case refine_4 => rfl
      case refine_5 => rfl
      case refine_6 => (intro w' hSw; (try dsimp only at hSw); go_simp; (try with_reducible rfl))
      simp only [Act.put, List.setIfInBounds_toArray, List.set_cons_zero, List.set_cons_succ]
      refine take_one (i := 3) (d := 24) (oi := ?_) (v := ?_) ?_ (by kernel_rfl) (by kernel_rfl) (by kernel_rfl) (fun _ _ _ h => h) ?_ ?_ ?_ (by assumption) ?_
      case refine_3 => (simp only [List.getElem?_toArray, List.getElem?_cons_succ, List.getElem?_cons_zero]; rfl)
      case refine_4 => rfl
      case refine_5 => rfl
      case refine_6 => (intro w' hSw; (try dsimp only at hSw); go_simp; (try with_reducible rfl))
      simp only [Act.put, List.setIfInBounds_toArray, List.set_cons_zero, List.set_cons_succ]
      refine take_one (i := 4) (d := 25) (oi := ?_) (v := ?_) ?_ (by kernel_rfl) (by kernel_rfl) (by kernel_rfl) (fun _ _ _ h => h) ?_ ?_ ?_ (by assumption) ?_
      case refine_3 => (simp only [List.getElem?_toArray, List.getElem?_cons_succ, List.getElem?_cons_zero]; rfl)
      case refine_4 => rfl
      case refine_5 => rfl
      case refine_6 => (intro w' hSw; (try dsimp only at hSw); go_simp; (try with_reducible rfl))
      simp only [Act.put, List.setIfInBounds_toArray, List.set_cons_zero, List.set_cons_succ]
      refine take_one (i := 5) (d := 26) (oi := ?_) (v := ?_) ?_ (by kernel_rfl) (by kernel_rfl) (by kernel_rfl) (fun _ _ _ h => h) ?_ ?_ ?_ (by assumption) ?_
      case refine_3 => (simp only [List.getElem?_toArray, List.getElem?_cons_succ, List.getElem?_cons_zero]; rfl)
      case refine_4 => rfl
      case refine_5 => rfl
      case refine_6 => (intro w' hSw; (try dsimp only at hSw); go_simp; (try with_reducible rfl))
      simp only [Act.put, List.setIfInBounds_toArray, List.set_cons_zero, List.set_cons_succ]
      refine take_one (i := 6) (d := 27) (oi := ?_) (v := ?_) ?_ (by kernel_rfl) (by kernel_rfl) (by kernel_rfl) (fun _ _ _ h => h) ?_ ?_ ?_ (by assumption) ?_
      case refine_3 => (simp only [List.getElem?_toArray, List.getElem?_cons_succ, List.getElem?_cons_zero]; rfl)
      case refine_4 => rfl
      case refine_5 => rfl
      case refine_6 => (intro w' hSw; (try dsimp only at hSw); go_simp; (try with_reducible rfl))
      simp only [Act.put, List.setIfInBounds_toArray, List.set_cons_zero, List.set_cons_succ]
      refine wpAnyH_ready (rs := [7, 8]) (by kernel_rfl) (by simp) ?_
      refine AllReadyH.cons (o := ?_) ?_ (fun K hK => ?_) (AllReadyH.cons (o := ?_) ?_ (fun K hK => ?_) AllReadyH.nil)
      case refine_2 => (simp only [List.getElem?_toArray, List.getElem?_cons_succ, List.getElem?_cons_zero]; rfl)
      case refine_5 => (simp only [List.getElem?_toArray, List.getElem?_cons_succ, List.getElem?_cons_zero]; rfl)
      case refine_3 =>
        go_simp
        refine hK.out _ _ trivial (fun hHeld => ?_)
        clear hK K
        try simp only [Act.put, List.setIfInBounds_toArray, List.set_cons_zero, List.set_cons_succ]
        refine wpAnyH_ready (rs := [8]) (by kernel_rfl) (by simp) ?_
        refine AllReadyH.cons (o := ?_) ?_ (fun K hK => ?_) AllReadyH.nil
        case refine_2 => (simp only [List.getElem?_toArray, List.getElem?_cons_succ, List.getElem?_cons_zero]; rfl)
        go_simp
        refine hK.out _ _ trivial (fun hHeld => ?_)
        clear hK K
        try simp only [Act.put, List.setIfInBounds_toArray, List.set_cons_zero, List.set_cons_succ]
        refine wpAnyH_ready (rs := [9]) (by kernel_rfl) (by simp) ?_
        refine AllReadyH.cons (o := ?_) ?_ (fun K hK => ?_) AllReadyH.nil
        case refine_2 => (simp only [List.getElem?_toArray, List.getElem?_cons_succ, List.getElem?_cons_zero]; rfl)
        go_simp
        (go_at_call 72; refine (HCU.out _).mono ?_; rintro e w5 ⟨Ac, nc, cc, rfl, h1, h2, h3, h4, h5, h6, ho5⟩; have HCA := Lib.hid (And.intro h1 (And.intro h2 (And.intro h3 (And.intro h4 h5)))); have HCB := Lib.hid h6; have HO5 := Lib.hid ((Only.trans (Only.refl _ w4).drew (ho5.mono fun _ h => h) : Only (w4.heap.size ≤ ·) w4 w5)); have HC5 := Lib.hid (HC4.out.later HO5.out); clear h1 h2 h3 h4 h5 h6 ho5)
        go_wp2_with (fail)
        refine hK.out _ _ trivial (fun hHeld => ?_)
        clear hK K
        try simp only [Act.put, List.setIfInBounds_toArray, List.set_cons_zero, List.set_cons_succ]
        refine wpAnyH_ready (rs := [10]) (by kernel_rfl) (by simp) ?_
        refine AllReadyH.cons (o := ?_) ?_ (fun K hK => ?_) AllReadyH.nil
        case refine_2 => (simp only [List.getElem?_toArray, List.getElem?_cons_succ, List.getElem?_cons_zero]; rfl)
        go_simp
        (go_at_call 71; refine (Repl_c HC5.out HR4.out.1 HR4.out.2.1 (Nat.le_trans HR4.out.2.2 HO5.out.size) HCA.out.1 HCA.out.2.1 HCA.out.2.2.1 HCA.out.2.2.2.2 HCA.out.2.2.2.1 (fun ad e => (HCB.out ad e).elim fun gv h => ⟨gv, h.1, (fun g' hg' hh => absurd (show w4.heap.size ≤ gv from h.2.1) (Nat.not_le.2 (by rw [hh, ← (Option.some.inj hg' : g = g')]; exact HGL.out))), h.2.2⟩)).mono ?_; rintro e w6 ⟨v6, n6, rfl, hv6, ho6⟩; have HV6 := Lib.hid hv6; have HO6 := Lib.hid ho6; clear hv6 ho6)
        go_wp2_with (fail)
        refine hK.out _ _ trivial (fun hHeld => ?_)
        clear hK K
        try simp only [Act.put, List.setIfInBounds_toArray, List.set_cons_zero, List.set_cons_succ]
        refine take_one (i := 11) (d := 4) (oi := ?_) (v := ?_) ?_ (by kernel_rfl) (by kernel_rfl) (by kernel_rfl) (fun _ _ _ h => h) ?_ ?_ ?_ (by assumption) ?_
        case refine_3 => (simp only [List.getElem?_toArray, List.getElem?_cons_succ, List.getElem?_cons_zero]; rfl)
        case refine_4 => rfl
        case refine_5 => rfl
        case refine_6 => (intro w' hSw; (try dsimp only at hSw); go_simp; (try with_reducible rfl))
        simp only [Act.put, List.setIfInBounds_toArray, List.set_cons_zero, List.set_cons_succ]
        refine take_one (i := 12) (d := 5) (oi := ?_) (v := ?_) ?_ (by kernel_rfl) (by kernel_rfl) (by kernel_rfl) (fun _ _ _ h => h) ?_ ?_ ?_ (by assumption) ?_
        case refine_3 => (simp only [List.getElem?_toArray, List.getElem?_cons_succ, List.getElem?_cons_zero]; rfl)
        case refine_4 => rfl
        case refine_5 => rfl
        case refine_6 => (intro w' hSw; (try dsimp only at hSw); go_simp; (try with_reducible rfl))
        simp only [Act.put, List.setIfInBounds_toArray, List.set_cons_zero, List.set_cons_succ]
        refine wpAnyH_done (by kernel_rfl) ?_ _
        clear hHeld
        go_wp2
        go_ret2
        exact ⟨_, n6, _, true, rfl, HV6.out.weaken (Nat.le_trans HOX.out.size HS1.out), ⟨fun _ => HNW.out, fun _ => rfl⟩, HDR.out.congr fun p => ⟨fun h => ⟨h.1, fun hh => h.2 hh.2⟩, fun h => ⟨h.1, fun hh => h.2 ⟨rfl, hh⟩⟩⟩, on_new HOX.out ((on_new HO4.out HO5.out).trans (HO6.out.mono fun q hq => Nat.le_trans HS1.out hq))⟩
      case refine_6 =>
        go_simp
        refine hK.out _ _ trivial (fun hHeld => ?_)
        clear hK K
        try simp only [Act.put, List.setIfInBounds_toArray, List.set_cons_zero, List.set_cons_succ]
        refine wpAnyH_ready (rs := [7]) (by kernel_rfl) (by simp) ?_
        refine AllReadyH.cons (o := ?_) ?_ (fun K hK => ?_) AllReadyH.nil
        case refine_2 => (simp only [List.getElem?_toArray, List.getElem?_cons_succ, List.getElem?_cons_zero]; rfl)
        go_simp
        refine hK.out _ _ trivial (fun hHeld => ?_)
        clear hK K
        try simp only [Act.put, List.setIfInBounds_toArray, List.set_cons_zero, List.set_cons_succ]
        refine wpAnyH_ready (rs := [9]) (by kernel_rfl) (by simp) ?_
        refine AllReadyH.cons (o := ?_) ?_ (fun K hK => ?_) AllReadyH.nil
        case refine_2 => (simp only [List.getElem?_toArray, List.getElem?_cons_succ, List.getElem?_cons_zero]; rfl)
        go_simp
        (go_at_call 72; refine (HCU.out _).mono ?_; rintro e w5 ⟨Ac, nc, cc, rfl, h1, h2, h3, h4, h5, h6, ho5⟩; have HCA := Lib.hid (And.intro h1 (And.intro h2 (And.intro h3 (And.intro h4 h5)))); have HCB := Lib.hid h6; have HO5 := Lib.hid ((Only.trans (Only.refl _ w4).drew (ho5.mono fun _ h => h) : Only (w4.heap.size ≤ ·) w4 w5)); have HC5 := Lib.hid (HC4.out.later HO5.out); clear h1 h2 h3 h4 h5 h6 ho5)
        go_wp2_with (fail)
        refine hK.out _ _ trivial (fun hHeld => ?_)
        clear hK K
        try simp only [Act.put, List.setIfInBounds_toArray, List.set_cons_zero, List.set_cons_succ]
        refine wpAnyH_ready (rs := [10]) (by kernel_rfl) (by simp) ?_
        refine AllReadyH.cons (o := ?_) ?_ (fun K hK => ?_) AllReadyH.nil
        case refine_2 => (simp only [List.getElem?_toArray, List.getElem?_cons_succ, List.getElem?_cons_zero]; rfl)
        go_simp
        (go_at_call 71; refine (Repl_c HC5.out HR4.out.1 HR4.out.2.1 (Nat.le_trans HR4.out.2.2 HO5.out.size) HCA.out.1 HCA.out.2.1 HCA.out.2.2.1 HCA.out.2.2.2.2 HCA.out.2.2.2.1 (fun ad e => (HCB.out ad e).elim fun gv h => ⟨gv, h.1, (fun g' hg' hh => absurd (show w4.heap.size ≤ gv from h.2.1) (Nat.not_le.2 (by rw [hh, ← (Option.some.inj hg' : g = g')]; exact HGL.out))), h.2.2⟩)).mono ?_; rintro e w6 ⟨v6, n6, rfl, hv6, ho6⟩; have HV6 := Lib.hid hv6; have HO6 := Lib.hid ho6; clear hv6 ho6)
        go_wp2_with (fail)
        refine hK.out _ _ trivial (fun hHeld => ?_)
        clear hK K
        try simp only [Act.put, List.setIfInBounds_toArray, List.set_cons_zero, List.set_cons_succ]
        refine take_one (i := 11) (d := 4) (oi := ?_) (v := ?_) ?_ (by kernel_rfl) (by kernel_rfl) (by kernel_rfl) (fun _ _ _ h => h) ?_ ?_ ?_ (by assumption) ?_
        case refine_3 => (simp only [List.getElem?_toArray, List.getElem?_cons_succ, List.getElem?_cons_zero]; rfl)
        case refine_4 => rfl
        case refine_5 => rfl
        case refine_6 => (intro w' hSw; (try dsimp only at hSw); go_simp; (try with_reducible rfl))
        simp only [Act.put, List.setIfInBounds_toArray, List.set_cons_zero, List.set_cons_succ]
        refine take_one (i := 12) (d := 5) (oi := ?_) (v := ?_) ?_ (by kernel_rfl) (by kernel_rfl) (by kernel_rfl) (fun _ _ _ h => h) ?_ ?_ ?_ (by assumption) ?_
        case refine_3 => (simp only [List.getElem?_toArray, List.getElem?_cons_succ, List.getElem?_cons_zero]; rfl)
        case refine_4 => rfl
        case refine_5 => rfl
        case refine_6 => (intro w' hSw; (try dsimp only at hSw); go_simp; (try with_reducible rfl))
        simp only [Act.put, List.setIfInBounds_toArray, List.set_cons_zero, List.set_cons_succ]
        refine wpAnyH_done (by kernel_rfl) ?_ _
        clear hHeld
        go_wp2
        go_ret2
        exact ⟨_, n6, _, true, rfl, HV6.out.weaken (Nat.le_trans HOX.out.size HS1.out), ⟨fun _ => HNW.out, fun _ => rfl⟩, HDR.out.congr fun p => ⟨fun h => ⟨h.1, fun hh => h.2 hh.2⟩, fun h => ⟨h.1, fun hh => h.2 ⟨rfl, hh⟩⟩⟩, on_new HOX.out ((on_new HO4.out HO5.out).trans (HO6.out.mono fun q hq => Nat.le_trans HS1.out hq))⟩
end Go.Proofs.YtmadlckladohbaaGreat
