/-
  What the program, and what the document, says of one item: by plain functions of its lengths and numbers.
-/
import Derived.Test.YtjbbljnfgpggkaaDoorSmal
import Derived.Deep.QuietTactic
import Derived.BigQuiet
set_option linter.unusedVariables false
namespace Go.Proofs.YtjbbljnfgpggkaaDoor
open Go.RowKit

theorem Blk.later {w w' : World} {g : Nat} {t : TypeId} {cs : List Value} (h : Blk w g t cs) (ho : Only (w.heap.size ≤ ·) w w') : Blk w' g t cs := h.only ho (by have := h.lt; omega)
theorem Blk.four {w : World} {g : Nat} {t : TypeId} {a b c d : Value} (h : Blk w g t [a, b, c, d]) : w.cell? ⟨g, 0, none⟩ = some a ∧ w.cell? ⟨g, 1, none⟩ = some b ∧ w.cell? ⟨g, 2, none⟩ = some c ∧ w.cell? ⟨g, 3, none⟩ = some d := ⟨h.cell 0, h.cell 1, h.cell 2, h.cell 3⟩

def far (m : Nat) (r : Int) : Bool := decide (r ≠ 0 ∨ 32 < m)
def long (m : Nat) (s r : Int) : Int := if r = 0 then (m : Int) else s
def keyOk (g : Int) (n : Nat) : Bool := decide (1 ≤ n ∧ (n : Int) ≤ tr g 16 20 24)
def why (g : Int) (n m : Nat) : Int := if gen g = true then (if keyOk g n = true then (if (m : Int) ≤ tr g 400 800 1600 then 0 else 51) else 50) else 1
def putOk (m : Nat) (s r : Int) : Bool := decide ((r = 0 ∧ s = 0) ∨ (r ≠ 0 ∧ 2 ≤ r ∧ r < 16384 ∧ 32 < s ∧ m = 0))
def okay (g : Int) (n m : Nat) (s r : Int) : Bool := gen g && (keyOk g n && (decide (long m s r ≤ tr g 400 800 1600) && putOk m s r))
def room (g : Int) (n m : Nat) (r : Int) : Int := if gen g = true then 4 + n + (if far m r = true then tr g 4 8 8 else (m : Int)) else 0
def kid (g : Int) (n : Nat) : Int := if gen g = true then 1 + n + tr g 4 8 8 else 0

section
variable (w : World) (A B : Option Addr) (n c m d : Nat) (s r : Int)

set_option maxHeartbeats 800000 in
theorem away_c (b : Bool) (hb : (r != 0) = b) : Calls Tryd.prog 87 #[.agg #[.slice A n c, .slice B m d, .int .i64 s, .int .i64 r]] w (Told w (.bool b)) := by
  have HI : Hid (Blk (w.alloc (.cells #[.slice A n c, .slice B m d, .int .i64 s, .int .i64 r] 56)) w.heap.size 56 [.slice A n c, .slice B m d, .int .i64 s, .int .i64 r]) := Blk.new w 56 [.slice A n c, .slice B m d, .int .i64 s, .int .i64 r]
  have HO : Hid (Only (w.heap.size ≤ ·) w (w.alloc (.cells #[.slice A n c, .slice B m d, .int .i64 s, .int .i64 r] 56))) := (Only.refl _ w).alloc (fun _ h => h) _
  have HE := Lib.hid hb
  clear hb
  go_enter Tryd.func87, Tryd.ntmps87
  go_wp2
  go_ret
  exact ⟨by rw [← HE.out]; rfl, HO.out⟩

set_option maxHeartbeats 1600000 in
theorem Far_c (b : Bool) (hb : far m r = b) : Calls Tryd.prog 81 #[.agg #[.slice A n c, .slice B m d, .int .i64 s, .int .i64 r]] w (Told w (.bool b)) := by
  have HI : Hid (Blk (w.alloc (.cells #[.slice A n c, .slice B m d, .int .i64 s, .int .i64 r] 56)) w.heap.size 56 [.slice A n c, .slice B m d, .int .i64 s, .int .i64 r]) := Blk.new w 56 [.slice A n c, .slice B m d, .int .i64 s, .int .i64 r]
  have HO : Hid (Only (w.heap.size ≤ ·) w (w.alloc (.cells #[.slice A n c, .slice B m d, .int .i64 s, .int .i64 r] 56))) := (Only.refl _ w).alloc (fun _ h => h) _
  have HF := Lib.hid hb
  clear hb
  by_cases hr : r = 0
  · subst hr
    have HR := Lib.hid (show ((0 : Int) != 0) = false from rfl)
    by_cases hm : (32 : Int) < (m : Int)
    · obtain rfl : b = true := by rw [← HF.out]; unfold far; rw [decide_eq_true_eq]; omega
      go_enter Tryd.func81, Tryd.ntmps81
      go_wp2_with (first
        | (go_at_call 87; (with_reducible refine (away_c _ _ _ _ _ _ _ _ _ _ HR.out).mono ?_); rintro e w1 ⟨rfl, ho⟩; (replace HI := Lib.hid (HI.out.later ho)); (obtain ⟨hi0, hi1, hi2, hi3⟩ := HI.out.four); (replace HO := Lib.hid (on_new HO.out ho)); clear ho))
      go_ret
      exact ⟨rfl, HO.out⟩
    · obtain rfl : b = false := by rw [← HF.out]; unfold far; rw [decide_eq_false_iff_not]; omega
      go_enter Tryd.func81, Tryd.ntmps81
      go_wp2_with (first
        | (go_at_call 87; (with_reducible refine (away_c _ _ _ _ _ _ _ _ _ _ HR.out).mono ?_); rintro e w1 ⟨rfl, ho⟩; (replace HI := Lib.hid (HI.out.later ho)); (obtain ⟨hi0, hi1, hi2, hi3⟩ := HI.out.four); (replace HO := Lib.hid (on_new HO.out ho)); clear ho))
      go_ret
      first | exact ⟨rfl, HO.out⟩ | exact ⟨congrArg (fun x => Ending.returned (.bool x)) (decide_eq_false (by omega)), HO.out⟩
  · obtain rfl : b = true := by rw [← HF.out]; unfold far; rw [decide_eq_true_eq]; omega
    have HR := Lib.hid (show (r != 0) = true by simpa using hr)
    go_enter Tryd.func81, Tryd.ntmps81
    go_wp2_with (first
      | (go_at_call 87; (with_reducible refine (away_c _ _ _ _ _ _ _ _ _ _ HR.out).mono ?_); rintro e w1 ⟨rfl, ho⟩; (replace HI := Lib.hid (HI.out.later ho)); (obtain ⟨hi0, hi1, hi2, hi3⟩ := HI.out.four); (replace HO := Lib.hid (on_new HO.out ho)); clear ho))
    go_ret
    exact ⟨rfl, HO.out⟩

set_option maxHeartbeats 1600000 in
theorem rFar_c (b : Bool) (hb : far m r = b) : Calls Tryd.prog 79 #[.agg #[.slice A n c, .slice B m d, .int .i64 s, .int .i64 r]] w (Told w (.bool b)) := by
  have HI : Hid (Blk (w.alloc (.cells #[.slice A n c, .slice B m d, .int .i64 s, .int .i64 r] 52)) w.heap.size 52 [.slice A n c, .slice B m d, .int .i64 s, .int .i64 r]) := Blk.new w 52 [.slice A n c, .slice B m d, .int .i64 s, .int .i64 r]
  have HO : Hid (Only (w.heap.size ≤ ·) w (w.alloc (.cells #[.slice A n c, .slice B m d, .int .i64 s, .int .i64 r] 52))) := (Only.refl _ w).alloc (fun _ h => h) _
  have HF := Lib.hid hb
  clear hb
  by_cases hr : r = 0
  · subst hr
    have HR := Lib.hid (show ((0 : Int) != 0) = false from rfl)
    by_cases hm : (32 : Int) < (m : Int)
    · obtain rfl : b = true := by rw [← HF.out]; unfold far; rw [decide_eq_true_eq]; omega
      have hm' : (33 : Int) ≤ (m : Int) := by omega
      go_enter Tryd.func79, Tryd.ntmps79
      go_wp2
      go_ret
      exact ⟨rfl, HO.out⟩
    · obtain rfl : b = false := by rw [← HF.out]; unfold far; rw [decide_eq_false_iff_not]; omega
      have hm' : ¬ (33 : Int) ≤ (m : Int) := by omega
      go_enter Tryd.func79, Tryd.ntmps79
      go_wp2
      go_ret
      first | exact ⟨rfl, HO.out⟩ | exact ⟨congrArg (fun x => Ending.returned (.bool x)) (decide_eq_false (by omega)), HO.out⟩
  · obtain rfl : b = true := by rw [← HF.out]; unfold far; rw [decide_eq_true_eq]; omega
    have HR := Lib.hid (show (r != 0) = true by simpa using hr)
    go_enter Tryd.func79, Tryd.ntmps79
    go_wp2
    go_ret
    exact ⟨rfl, HO.out⟩

set_option maxHeartbeats 1600000 in
theorem Long_c (l : Int) (hl : long m s r = l) : Calls Tryd.prog 84 #[.agg #[.slice A n c, .slice B m d, .int .i64 s, .int .i64 r]] w (Told w (.int .i64 l)) := by
  have HI : Hid (Blk (w.alloc (.cells #[.slice A n c, .slice B m d, .int .i64 s, .int .i64 r] 56)) w.heap.size 56 [.slice A n c, .slice B m d, .int .i64 s, .int .i64 r]) := Blk.new w 56 [.slice A n c, .slice B m d, .int .i64 s, .int .i64 r]
  have HO : Hid (Only (w.heap.size ≤ ·) w (w.alloc (.cells #[.slice A n c, .slice B m d, .int .i64 s, .int .i64 r] 56))) := (Only.refl _ w).alloc (fun _ h => h) _
  have HL := Lib.hid hl
  clear hl
  by_cases hr : r = 0
  · subst hr
    have HR := Lib.hid (show ((0 : Int) != 0) = false from rfl)
    go_enter Tryd.func84, Tryd.ntmps84
    go_wp2_with (first
      | (go_at_call 87; (with_reducible refine (away_c _ _ _ _ _ _ _ _ _ _ HR.out).mono ?_); rintro e w1 ⟨rfl, ho⟩; (replace HI := Lib.hid (HI.out.later ho)); (obtain ⟨hi0, hi1, hi2, hi3⟩ := HI.out.four); (replace HO := Lib.hid (on_new HO.out ho)); clear ho))
    go_ret
    exact ⟨by rw [← HL.out]; rfl, HO.out⟩
  · have HR := Lib.hid (show (r != 0) = true by simpa using hr)
    obtain rfl : l = s := by rw [← HL.out]; unfold long; rw [if_neg hr]
    go_enter Tryd.func84, Tryd.ntmps84
    go_wp2_with (first
      | (go_at_call 87; (with_reducible refine (away_c _ _ _ _ _ _ _ _ _ _ HR.out).mono ?_); rintro e w1 ⟨rfl, ho⟩; (replace HI := Lib.hid (HI.out.later ho)); (obtain ⟨hi0, hi1, hi2, hi3⟩ := HI.out.four); (replace HO := Lib.hid (on_new HO.out ho)); clear ho))
    go_ret
    exact ⟨rfl, HO.out⟩

end
section
variable (w : World) (A B : Option Addr) (n c m d : Nat) (s r g : Int)

set_option maxHeartbeats 1600000 in
theorem keyMayBe_c (b : Bool) (hg : Gens w) (hb : keyOk g n = b) : Calls Tryd.prog 83 #[.int .i64 g, .slice A n c] w (Told w (.bool b)) := by
  have HG := Lib.hid hg
  have HO : Hid (Only (w.heap.size ≤ ·) w w) := Only.refl _ w
  have HF := Lib.hid hb
  clear hb hg
  obtain ⟨k, hk⟩ : ∃ k, k = tr g 16 20 24 := ⟨_, rfl⟩
  have HK : Hid (∀ W, Gens W → Calls Tryd.prog 77 #[.int .i64 g] W (Told W (.int .i64 k))) := fun W hW => by rw [hk]; exact MaxKey_c W g hW
  have HF' : Hid (decide (1 ≤ n ∧ (n : Int) ≤ k) = b) := by rw [hk]; exact HF.out
  clear HF hk
  by_cases h1 : (1 : Int) ≤ (n : Int)
  · by_cases h2 : (n : Int) ≤ k
    · obtain rfl : b = true := by rw [← HF'.out, decide_eq_true_eq]; omega
      go_enter Tryd.func83, Tryd.ntmps83
      go_wp2_with (first
        | (go_at_call 77; (with_reducible refine (HK.out _ HG.out).mono ?_); rintro e w1 ⟨rfl, ho⟩; (replace HG := Lib.hid (HG.out.later ho)); (replace HO := Lib.hid (on_new HO.out ho)); clear ho))
      go_ret
      exact ⟨rfl, HO.out⟩
    · obtain rfl : b = false := by rw [← HF'.out, decide_eq_false_iff_not]; omega
      go_enter Tryd.func83, Tryd.ntmps83
      go_wp2_with (first
        | (go_at_call 77; (with_reducible refine (HK.out _ HG.out).mono ?_); rintro e w1 ⟨rfl, ho⟩; (replace HG := Lib.hid (HG.out.later ho)); (replace HO := Lib.hid (on_new HO.out ho)); clear ho))
      go_ret
      first | exact ⟨rfl, HO.out⟩ | exact ⟨congrArg (fun x => Ending.returned (.bool x)) (decide_eq_false (by omega)), HO.out⟩
  · obtain rfl : b = false := by rw [← HF'.out, decide_eq_false_iff_not]; omega
    go_enter Tryd.func83, Tryd.ntmps83
    go_wp2
    go_ret
    exact ⟨rfl, HO.out⟩

set_option maxHeartbeats 3200000 in
theorem placed_c (b : Bool) (hb : putOk m s r = b) : Calls Tryd.prog 86 #[.agg #[.slice A n c, .slice B m d, .int .i64 s, .int .i64 r]] w (Told w (.bool b)) := by
  have HI : Hid (Blk (w.alloc (.cells #[.slice A n c, .slice B m d, .int .i64 s, .int .i64 r] 56)) w.heap.size 56 [.slice A n c, .slice B m d, .int .i64 s, .int .i64 r]) := Blk.new w 56 [.slice A n c, .slice B m d, .int .i64 s, .int .i64 r]
  have HO : Hid (Only (w.heap.size ≤ ·) w (w.alloc (.cells #[.slice A n c, .slice B m d, .int .i64 s, .int .i64 r] 56))) := (Only.refl _ w).alloc (fun _ h => h) _
  have HF := Lib.hid hb
  clear hb
  by_cases hr : r = 0
  · subst hr
    have HR := Lib.hid (show ((0 : Int) != 0) = false from rfl)
    obtain rfl : (s == 0) = b := by rw [← HF.out]; unfold putOk; by_cases e : s = 0 <;> simp [e]
    go_enter Tryd.func86, Tryd.ntmps86
    go_wp2_with (first
      | (go_at_call 87; (with_reducible refine (away_c _ _ _ _ _ _ _ _ _ _ HR.out).mono ?_); rintro e w1 ⟨rfl, ho⟩; (replace HI := Lib.hid (HI.out.later ho)); (obtain ⟨hi0, hi1, hi2, hi3⟩ := HI.out.four); (replace HO := Lib.hid (on_new HO.out ho)); clear ho))
    go_ret
    exact ⟨rfl, HO.out⟩
  have HR := Lib.hid (show (r != 0) = true by simpa using hr)
  by_cases h1 : 2 ≤ r
  · by_cases h2 : r < 16384
    · by_cases h3 : 32 < s
      · by_cases h4 : m = 0
        · subst h4
          obtain rfl : b = true := by rw [← HF.out]; unfold putOk; rw [decide_eq_true_eq]; omega
          go_enter Tryd.func86, Tryd.ntmps86
          go_wp2_with (first
            | (go_at_call 87; (with_reducible refine (away_c _ _ _ _ _ _ _ _ _ _ HR.out).mono ?_); rintro e w1 ⟨rfl, ho⟩; (replace HI := Lib.hid (HI.out.later ho)); (obtain ⟨hi0, hi1, hi2, hi3⟩ := HI.out.four); (replace HO := Lib.hid (on_new HO.out ho)); clear ho))
          go_ret
          exact ⟨rfl, HO.out⟩
        · obtain rfl : b = false := by rw [← HF.out]; unfold putOk; rw [decide_eq_false_iff_not]; omega
          have h4' : ((m : Int) == 0) = false := by simpa using h4
          go_enter Tryd.func86, Tryd.ntmps86
          go_wp2_with (first
            | (go_at_call 87; (with_reducible refine (away_c _ _ _ _ _ _ _ _ _ _ HR.out).mono ?_); rintro e w1 ⟨rfl, ho⟩; (replace HI := Lib.hid (HI.out.later ho)); (obtain ⟨hi0, hi1, hi2, hi3⟩ := HI.out.four); (replace HO := Lib.hid (on_new HO.out ho)); clear ho))
          go_ret
          first | exact ⟨rfl, HO.out⟩ | exact ⟨congrArg (fun x => Ending.returned (.bool x)) h4', HO.out⟩
      · obtain rfl : b = false := by rw [← HF.out]; unfold putOk; rw [decide_eq_false_iff_not]; omega
        go_enter Tryd.func86, Tryd.ntmps86
        go_wp2_with (first
          | (go_at_call 87; (with_reducible refine (away_c _ _ _ _ _ _ _ _ _ _ HR.out).mono ?_); rintro e w1 ⟨rfl, ho⟩; (replace HI := Lib.hid (HI.out.later ho)); (obtain ⟨hi0, hi1, hi2, hi3⟩ := HI.out.four); (replace HO := Lib.hid (on_new HO.out ho)); clear ho))
        go_ret
        exact ⟨rfl, HO.out⟩
    · obtain rfl : b = false := by rw [← HF.out]; unfold putOk; rw [decide_eq_false_iff_not]; omega
      go_enter Tryd.func86, Tryd.ntmps86
      go_wp2_with (first
        | (go_at_call 87; (with_reducible refine (away_c _ _ _ _ _ _ _ _ _ _ HR.out).mono ?_); rintro e w1 ⟨rfl, ho⟩; (replace HI := Lib.hid (HI.out.later ho)); (obtain ⟨hi0, hi1, hi2, hi3⟩ := HI.out.four); (replace HO := Lib.hid (on_new HO.out ho)); clear ho))
      go_ret
      exact ⟨rfl, HO.out⟩
  · obtain rfl : b = false := by rw [← HF.out]; unfold putOk; rw [decide_eq_false_iff_not]; omega
    go_enter Tryd.func86, Tryd.ntmps86
    go_wp2_with (first
      | (go_at_call 87; (with_reducible refine (away_c _ _ _ _ _ _ _ _ _ _ HR.out).mono ?_); rintro e w1 ⟨rfl, ho⟩; (replace HI := Lib.hid (HI.out.later ho)); (obtain ⟨hi0, hi1, hi2, hi3⟩ := HI.out.four); (replace HO := Lib.hid (on_new HO.out ho)); clear ho))
    go_ret
    exact ⟨rfl, HO.out⟩
end
end Go.Proofs.YtjbbljnfgpggkaaDoor
