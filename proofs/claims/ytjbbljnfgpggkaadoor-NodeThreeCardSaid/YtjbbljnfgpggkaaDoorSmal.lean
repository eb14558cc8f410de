/-
  The table of the generations in memory; what each of them has, by the program and by the document.
-/
import Derived.Test.YtjbbljnfgpggkaaDoorMem
import Derived.Deep.RegionHeld3
import Derived.IntWalk
import Derived.OwnWalk
import Derived.Outline
set_option linter.unusedVariables false
namespace Go.Proofs.YtjbbljnfgpggkaaDoor
open Go.RowKit

/-- Returned with this value; what was there is as it was. -/
def Told (w : World) (v : Value) (e : Ending) (w' : World) : Prop := e = .returned v ∧ Only (w.heap.size ≤ ·) w w'
theorem Told.later {w w' : World} {v : Value} {e : Ending} {w1 : World} (h : Told w' v e w1) (ho : Only (w.heap.size ≤ ·) w w') : Told w v e w1 := ⟨h.1, ho.trans (h.2.mono fun _ hk => Nat.le_trans ho.size hk)⟩
theorem on_new {w0 w w' : World} (h : Only (w0.heap.size ≤ ·) w0 w) (ho : Only (w.heap.size ≤ ·) w w') : Only (w0.heap.size ≤ ·) w0 w' := h.trans (ho.mono fun k hk => Nat.le_trans h.size hk)

def gcells : List Value := [.int .i64 0, .int .i64 0, .int .i64 0, .int .i64 0, .int .i64 16, .int .i64 400, .int .i64 4, .int .i64 8, .int .i64 20, .int .i64 800, .int .i64 8, .int .i64 16, .int .i64 24, .int .i64 1600, .int .i64 8, .int .i64 16]
/-- The table of the generations lies as it was laid. -/
def Gens (w : World) : Prop := 0 < w.heap.size ∧ ∀ (i : Nat) v, gcells[i]? = some v → w.cell? ⟨0, i, none⟩ = some v
theorem Gens.later {w w' : World} (h : Gens w) (ho : Only (w.heap.size ≤ ·) w w') : Gens w' :=
  ⟨Nat.lt_of_lt_of_le h.1 ho.size, fun i v hv => (ho.cell (p := ⟨0, i, none⟩) (by have := h.1; show ¬ w.heap.size ≤ 0; omega)).trans (h.2 i v hv)⟩

def gen (g : Int) : Bool := decide (1 ≤ g ∧ g ≤ 3)
theorem gen_iff (g : Int) : gen g = true ↔ g = 1 ∨ g = 2 ∨ g = 3 := by unfold gen; rw [decide_eq_true_eq]; omega
def tr (g a b c : Int) : Int := if g = 1 then a else if g = 2 then b else if g = 3 then c else 0
theorem tr_no {g : Int} (h : gen g = false) (a b c : Int) : tr g a b c = 0 := by
  have : ¬ (g = 1 ∨ g = 2 ∨ g = 3) := fun hh => by rw [(gen_iff g).2 hh] at h; cases h
  unfold tr
  rw [if_neg (by omega), if_neg (by omega), if_neg (by omega)]

set_option maxHeartbeats 800000 in
theorem Gen_c (w : World) (g : Int) : Calls Tryd.prog 56 #[.int .i64 g] w fun e w' => e = .returned (.bool (gen g)) ∧ w = w' := by
  obtain ⟨b, hb⟩ : ∃ b, b = gen g := ⟨_, rfl⟩
  have HB : Hid (b = true ↔ 1 ≤ g ∧ g ≤ 3) := by rw [hb]; unfold gen; rw [decide_eq_true_eq]; exact Iff.rfl
  rw [← hb]
  clear hb
  by_cases h1 : 1 ≤ g
  · by_cases h2 : g ≤ 3
    · obtain rfl : b = true := HB.out.2 ⟨h1, h2⟩
      go_enter Tryd.func56, Tryd.ntmps56
      go_wp2
      go_ret
      exact ⟨rfl, rfl⟩
    · obtain rfl : b = false := by rw [← Bool.not_eq_true]; intro h; have := HB.out.1 h; omega
      go_enter Tryd.func56, Tryd.ntmps56
      go_wp2
      go_ret
      exact ⟨rfl, rfl⟩
  · obtain rfl : b = false := by rw [← Bool.not_eq_true]; intro h; have := HB.out.1 h; omega
    go_enter Tryd.func56, Tryd.ntmps56
    go_wp2
    go_ret
    exact ⟨rfl, rfl⟩

set_option maxHeartbeats 800000 in
theorem trait_c (w : World) (g x y z : Int) : Calls Tryd.prog 70 #[.int .i64 g, .int .i64 x, .int .i64 y, .int .i64 z] w fun e w' => e = .returned (.int .i64 (tr g x y z)) ∧ w = w' := by
  by_cases h1 : g = 1
  · subst h1
    go_enter Tryd.func70, Tryd.ntmps70
    go_wp2
    go_ret
    exact ⟨rfl, rfl⟩
  by_cases h2 : g = 2
  · subst h2
    go_enter Tryd.func70, Tryd.ntmps70
    go_wp2
    go_ret
    exact ⟨rfl, rfl⟩
  by_cases h3 : g = 3
  · subst h3
    go_enter Tryd.func70, Tryd.ntmps70
    go_wp2
    go_ret
    exact ⟨rfl, rfl⟩
  have HT : Hid (tr g x y z = 0) := by show _ = _; unfold tr; rw [if_neg h1, if_neg h2, if_neg h3]
  go_enter Tryd.func70, Tryd.ntmps70
  go_wp2
  go_ret
  exact ⟨by rw [HT.out]; rfl, rfl⟩

def hasOf (g : Int) : Value := .agg #[.int .i64 (tr g 16 20 24), .int .i64 (tr g 400 800 1600), .int .i64 (tr g 4 8 8), .int .i64 (tr g 8 16 16)]
set_option maxHeartbeats 1600000 in
theorem has_c (w : World) (g : Int) (hg : Gens w) : Calls Tryd.prog 78 #[.int .i64 g] w (Told w (hasOf g)) := by
  by_cases hi : gen g = true
  · rcases (gen_iff g).1 hi with rfl | rfl | rfl
    · have q0 := hg.2 4 _ rfl
      have q1 := hg.2 5 _ rfl
      have q2 := hg.2 6 _ rfl
      have q3 := hg.2 7 _ rfl
      have hp := hg.1
      clear hg hi
      go_enter Tryd.func78, Tryd.ntmps78
      go_wp2
      exact bodyPost_ret (v := .agg #[.int .i64 16, .int .i64 400, .int .i64 4, .int .i64 8]) (by simp [results, Tryd.results78, go_sem]) rfl ⟨rfl, (Only.refl _ w).alloc (fun _ h => h) _⟩
    · have q0 := hg.2 8 _ rfl
      have q1 := hg.2 9 _ rfl
      have q2 := hg.2 10 _ rfl
      have q3 := hg.2 11 _ rfl
      have hp := hg.1
      clear hg hi
      go_enter Tryd.func78, Tryd.ntmps78
      go_wp2
      exact bodyPost_ret (v := .agg #[.int .i64 20, .int .i64 800, .int .i64 8, .int .i64 16]) (by simp [results, Tryd.results78, go_sem]) rfl ⟨rfl, (Only.refl _ w).alloc (fun _ h => h) _⟩
    · have q0 := hg.2 12 _ rfl
      have q1 := hg.2 13 _ rfl
      have q2 := hg.2 14 _ rfl
      have q3 := hg.2 15 _ rfl
      have hp := hg.1
      clear hg hi
      go_enter Tryd.func78, Tryd.ntmps78
      go_wp2
      exact bodyPost_ret (v := .agg #[.int .i64 24, .int .i64 1600, .int .i64 8, .int .i64 16]) (by simp [results, Tryd.results78, go_sem]) rfl ⟨rfl, (Only.refl _ w).alloc (fun _ h => h) _⟩
  · have HG := Lib.hid (show gen g = false by simpa using hi)
    have HE : Hid (hasOf g = .agg #[.int .i64 0, .int .i64 0, .int .i64 0, .int .i64 0]) := by show _ = _; unfold hasOf; rw [tr_no HG.out, tr_no HG.out, tr_no HG.out, tr_no HG.out]
    clear hi hg
    go_enter Tryd.func78, Tryd.ntmps78
    go_wp2_with (go_at_call 56; refine (Gen_c _ g).mono ?_; rintro e w1 ⟨rfl, rfl⟩; rw [HG.out])
    exact bodyPost_ret (v := .agg #[.int .i64 0, .int .i64 0, .int .i64 0, .int .i64 0]) (by simp [results, Tryd.results78, go_sem]) rfl ⟨by rw [HE.out], (Only.refl _ w).alloc (fun _ h => h) _⟩

theorem field0 (a b c d : Int) (W : World) : (Instr.field 108 (.agg #[.int .i64 a, .int .i64 b, .int .i64 c, .int .i64 d]) 0).run Tryd.prog W = .ok (.int .i64 a) W := by kernel_rfl
theorem field1 (a b c d : Int) (W : World) : (Instr.field 108 (.agg #[.int .i64 a, .int .i64 b, .int .i64 c, .int .i64 d]) 1).run Tryd.prog W = .ok (.int .i64 b) W := by kernel_rfl
theorem field2 (a b c d : Int) (W : World) : (Instr.field 108 (.agg #[.int .i64 a, .int .i64 b, .int .i64 c, .int .i64 d]) 2).run Tryd.prog W = .ok (.int .i64 c) W := by kernel_rfl
theorem field3 (a b c d : Int) (W : World) : (Instr.field 108 (.agg #[.int .i64 a, .int .i64 b, .int .i64 c, .int .i64 d]) 3).run Tryd.prog W = .ok (.int .i64 d) W := by kernel_rfl
set_option maxHeartbeats 800000 in
theorem MaxKey_c (w : World) (g : Int) (hg : Gens w) : Calls Tryd.prog 77 #[.int .i64 g] w (Told w (.int .i64 (tr g 16 20 24))) := by
  have HG := Lib.hid hg
  clear hg
  have hfd : ∀ W, (Instr.field 108 (.agg #[.int .i64 (tr g 16 20 24), .int .i64 (tr g 400 800 1600), .int .i64 (tr g 4 8 8), .int .i64 (tr g 8 16 16)]) 0).run Tryd.prog W = .ok (.int .i64 (tr g 16 20 24)) W := fun W => field0 _ _ _ _ W
  go_enter Tryd.func77, Tryd.ntmps77
  go_wp2_with (go_at_call 78; refine (has_c _ g HG.out).mono ?_; rintro e w1 ⟨rfl, ho⟩; have HO := Lib.hid ho; clear ho; unfold hasOf)
  go_ret
  exact ⟨rfl, HO.out⟩
set_option maxHeartbeats 800000 in
theorem rMaxKey_c (w : World) (g : Int) : Calls Tryd.prog 46 #[.int .i64 g] w fun e w' => e = .returned (.int .i64 (tr g 16 20 24)) ∧ w = w' := by
  go_enter Tryd.func46, Tryd.ntmps46
  go_wp2_with (go_at_call 70; refine (trait_c _ g 16 20 24).mono ?_; rintro e w1 ⟨rfl, rfl⟩)
  go_ret
  exact ⟨rfl, rfl⟩

set_option maxHeartbeats 800000 in
theorem MaxValue_c (w : World) (g : Int) (hg : Gens w) : Calls Tryd.prog 85 #[.int .i64 g] w (Told w (.int .i64 (tr g 400 800 1600))) := by
  have HG := Lib.hid hg
  clear hg
  have hfd : ∀ W, (Instr.field 108 (.agg #[.int .i64 (tr g 16 20 24), .int .i64 (tr g 400 800 1600), .int .i64 (tr g 4 8 8), .int .i64 (tr g 8 16 16)]) 1).run Tryd.prog W = .ok (.int .i64 (tr g 400 800 1600)) W := fun W => field1 _ _ _ _ W
  go_enter Tryd.func85, Tryd.ntmps85
  go_wp2_with (go_at_call 78; refine (has_c _ g HG.out).mono ?_; rintro e w1 ⟨rfl, ho⟩; have HO := Lib.hid ho; clear ho; unfold hasOf)
  go_ret
  exact ⟨rfl, HO.out⟩
set_option maxHeartbeats 800000 in
theorem rMaxValue_c (w : World) (g : Int) : Calls Tryd.prog 47 #[.int .i64 g] w fun e w' => e = .returned (.int .i64 (tr g 400 800 1600)) ∧ w = w' := by
  go_enter Tryd.func47, Tryd.ntmps47
  go_wp2_with (go_at_call 70; refine (trait_c _ g 400 800 1600).mono ?_; rintro e w1 ⟨rfl, rfl⟩)
  go_ret
  exact ⟨rfl, rfl⟩

set_option maxHeartbeats 800000 in
theorem IdWidth_c (w : World) (g : Int) (hg : Gens w) : Calls Tryd.prog 82 #[.int .i64 g] w (Told w (.int .i64 (tr g 4 8 8))) := by
  have HG := Lib.hid hg
  clear hg
  have hfd : ∀ W, (Instr.field 108 (.agg #[.int .i64 (tr g 16 20 24), .int .i64 (tr g 400 800 1600), .int .i64 (tr g 4 8 8), .int .i64 (tr g 8 16 16)]) 2).run Tryd.prog W = .ok (.int .i64 (tr g 4 8 8)) W := fun W => field2 _ _ _ _ W
  go_enter Tryd.func82, Tryd.ntmps82
  go_wp2_with (go_at_call 78; refine (has_c _ g HG.out).mono ?_; rintro e w1 ⟨rfl, ho⟩; have HO := Lib.hid ho; clear ho; unfold hasOf)
  go_ret
  exact ⟨rfl, HO.out⟩
set_option maxHeartbeats 800000 in
theorem rIdWidth_c (w : World) (g : Int) : Calls Tryd.prog 72 #[.int .i64 g] w fun e w' => e = .returned (.int .i64 (tr g 4 8 8)) ∧ w = w' := by
  go_enter Tryd.func72, Tryd.ntmps72
  go_wp2_with (go_at_call 70; refine (trait_c _ g 4 8 8).mono ?_; rintro e w1 ⟨rfl, rfl⟩)
  go_ret
  exact ⟨rfl, rfl⟩

set_option maxHeartbeats 800000 in
theorem Head_c (w : World) (g : Int) (hg : Gens w) : Calls Tryd.prog 66 #[.int .i64 g] w (Told w (.int .i64 (tr g 8 16 16))) := by
  have HG := Lib.hid hg
  clear hg
  have hfd : ∀ W, (Instr.field 108 (.agg #[.int .i64 (tr g 16 20 24), .int .i64 (tr g 400 800 1600), .int .i64 (tr g 4 8 8), .int .i64 (tr g 8 16 16)]) 3).run Tryd.prog W = .ok (.int .i64 (tr g 8 16 16)) W := fun W => field3 _ _ _ _ W
  go_enter Tryd.func66, Tryd.ntmps66
  go_wp2_with (go_at_call 78; refine (has_c _ g HG.out).mono ?_; rintro e w1 ⟨rfl, ho⟩; have HO := Lib.hid ho; clear ho; unfold hasOf)
  go_ret
  exact ⟨rfl, HO.out⟩
set_option maxHeartbeats 800000 in
theorem Cap_c (w : World) (g : Int) (hg : Gens w) : Calls Tryd.prog 38 #[.int .i64 g] w (Told w (.int .i64 (tr g 248 240 240))) := by
  have HG := Lib.hid hg
  clear hg
  by_cases hi : gen g = true
  · have HC : Hid (∀ W, Gens W → Calls Tryd.prog 66 #[.int .i64 g] W (Told W (.int .i64 (tr g 8 16 16)))) := fun W hW => Head_c W g hW
    have HI := Lib.hid hi
    rcases (gen_iff g).1 hi with rfl | rfl | rfl
    all_goals
      clear hi
      go_enter Tryd.func38, Tryd.ntmps38
      go_wp2_with (first | (go_at_call 56; refine (Gen_c _ _).mono ?_; rintro e w1 ⟨rfl, rfl⟩; rw [HI.out]) | (go_at_call 66; refine (HC.out _ HG.out).mono ?_; rintro e w1 ⟨rfl, ho⟩; have HO := Lib.hid ho; clear ho; simp only [tr, reduceIte, Int.reduceEq]))
      go_ret
      exact ⟨rfl, HO.out⟩
  · have HI := Lib.hid (show gen g = false by simpa using hi)
    have HE := Lib.hid (tr_no HI.out 248 240 240)
    clear hi
    go_enter Tryd.func38, Tryd.ntmps38
    go_wp2_with (go_at_call 56; refine (Gen_c _ g).mono ?_; rintro e w1 ⟨rfl, rfl⟩; rw [HI.out])
    go_ret
    exact ⟨by rw [HE.out]; rfl, Only.refl _ _⟩
set_option maxHeartbeats 800000 in
theorem rCap_c (w : World) (g : Int) : Calls Tryd.prog 65 #[.int .i64 g] w fun e w' => e = .returned (.int .i64 (tr g 248 240 240)) ∧ w = w' := by
  go_enter Tryd.func65, Tryd.ntmps65
  go_wp2_with (go_at_call 70; refine (trait_c _ g 248 240 240).mono ?_; rintro e w1 ⟨rfl, rfl⟩)
  go_ret
  exact ⟨rfl, rfl⟩
end Go.Proofs.YtjbbljnfgpggkaaDoor
