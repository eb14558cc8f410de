/-
  headFor, unplaced.
-/
import Derived.Test.YtoghojgajpfkkaaGreatDoorPit
import Derived.Test.YtoghojgajpfkkaaGreatDoorPhd
set_option linter.unusedVariables false
namespace Go.Proofs.YtoghojgajpfkkaaGreatDoor
open Go.RowKit

def hfV (g : Int) (lf : Bool) (i k : Nat) : Value := .agg #[.int .i64 (if lf = true then 76 else 66), .int .i64 g, .int .i64 (if lf = true then (i : Int) else (k : Int)), .int .i64 0]
set_option maxHeartbeats 1600000 in
theorem headFor_c (w : World) (g : Int) (lf : Bool) (P Q : Option Addr) (i pi k qk : Nat) :
    Calls Tryz.prog 29 #[.int .i64 g, .agg #[.bool lf, .slice P i pi, .slice Q k qk]] w (Told w (hfV g lf i k)) := by
  have HO : Hid (Only (w.heap.size ≤ ·) w (w.alloc (.cells #[.bool lf, .slice P i pi, .slice Q k qk] 28))) := Lib.hid ((Only.refl _ w).alloc (fun _ h => h) _)
  cases lf
  · have HB : Hid (Blk ((w.alloc (.cells #[.bool false, .slice P i pi, .slice Q k qk] 28)).alloc (.cells #[.int .i64 66, .int .i64 g, .int .i64 (k : Nat), .int .i64 0] 47)) (w.heap.size + 1) 47 [.int .i64 66, .int .i64 g, .int .i64 (k : Nat), .int .i64 0]) := Lib.hid (by
      have := Blk.new (w.alloc (.cells #[.bool false, .slice P i pi, .slice Q k qk] 28)) 47 [.int .i64 66, .int .i64 g, .int .i64 (k : Nat), .int .i64 0]
      rwa [show (w.alloc (.cells #[.bool false, .slice P i pi, .slice Q k qk] 28)).heap.size = w.heap.size + 1 from by simp] at this)
    go_enter Tryz.func29, Tryz.ntmps29
    go_wp2
    exact bodyPost_ret (results_cell rfl rfl (load_head HB.out)) rfl ⟨rfl, HO.out.alloc (fun _ h => h) _⟩
  · have HB : Hid (Blk ((w.alloc (.cells #[.bool true, .slice P i pi, .slice Q k qk] 28)).alloc (.cells #[.int .i64 76, .int .i64 g, .int .i64 (i : Nat), .int .i64 0] 47)) (w.heap.size + 1) 47 [.int .i64 76, .int .i64 g, .int .i64 (i : Nat), .int .i64 0]) := Lib.hid (by
      have := Blk.new (w.alloc (.cells #[.bool true, .slice P i pi, .slice Q k qk] 28)) 47 [.int .i64 76, .int .i64 g, .int .i64 (i : Nat), .int .i64 0]
      rwa [show (w.alloc (.cells #[.bool true, .slice P i pi, .slice Q k qk] 28)).heap.size = w.heap.size + 1 from by simp] at this)
    go_enter Tryz.func29, Tryz.ntmps29
    go_wp2
    exact bodyPost_ret (results_cell rfl rfl (load_head HB.out)) rfl ⟨rfl, HO.out.alloc (fun _ h => h) _⟩
/-- Is a value too long for the leaf, with no place outside? -/
def unp (m : Nat) (r : Int) : Bool := far m r && decide (r = 0)
set_option maxHeartbeats 1600000 in
theorem unplaced_c (w : World) (A B : Option Addr) (n c m d : Nat) (s r : Int) : Calls Tryz.prog 27 #[.agg #[.slice A n c, .slice B m d, .int .i64 s, .int .i64 r]] w (Told w (.bool (unp m r))) := by
  have HI : Hid (Blk (w.alloc (.cells #[.slice A n c, .slice B m d, .int .i64 s, .int .i64 r] 44)) w.heap.size 44 [.slice A n c, .slice B m d, .int .i64 s, .int .i64 r]) := Lib.hid (Blk.new w 44 [.slice A n c, .slice B m d, .int .i64 s, .int .i64 r])
  have HO : Hid (Only (w.heap.size ≤ ·) w (w.alloc (.cells #[.slice A n c, .slice B m d, .int .i64 s, .int .i64 r] 44))) := Lib.hid ((Only.refl _ w).alloc (fun _ h => h) _)
  obtain ⟨b, hb⟩ : ∃ b, far m r = b := ⟨_, rfl⟩
  have HFA : Hid (∀ W, Calls Tryz.prog 64 #[.agg #[.slice A n c, .slice B m d, .int .i64 s, .int .i64 r]] W (Told W (.bool b))) := Lib.hid fun W => Far_c W A B n c m d s r b hb
  unfold unp
  rw [hb]
  clear hb
  cases b
  · rw [Bool.false_and]
    go_enter Tryz.func27, Tryz.ntmps27
    go_wp2_with (go_at_call 64; (with_reducible refine (HFA.out _).mono ?_); rintro ee w2 ⟨rfl, ho⟩; have HI2 := Lib.hid (HI.out.later ho); (replace HO := Lib.hid (on_new HO.out ho)); clear ho; (obtain ⟨i0, i1, i2, i3⟩ := HI2.out.four))
    go_ret
    exact ⟨rfl, HO.out⟩
  · rw [Bool.true_and]
    by_cases h0 : r = 0
    · subst h0
      go_enter Tryz.func27, Tryz.ntmps27
      go_wp2_with (go_at_call 64; (with_reducible refine (HFA.out _).mono ?_); rintro ee w2 ⟨rfl, ho⟩; have HI2 := Lib.hid (HI.out.later ho); (replace HO := Lib.hid (on_new HO.out ho)); clear ho; (obtain ⟨i0, i1, i2, i3⟩ := HI2.out.four))
      go_ret
      exact ⟨rfl, HO.out⟩
    · rw [decide_eq_false h0]
      have hb0 : (r == 0) = false := by rw [beq_eq_false_iff_ne]; exact h0
      go_enter Tryz.func27, Tryz.ntmps27
      go_wp2_with (go_at_call 64; (with_reducible refine (HFA.out _).mono ?_); rintro ee w2 ⟨rfl, ho⟩; have HI2 := Lib.hid (HI.out.later ho); (replace HO := Lib.hid (on_new HO.out ho)); clear ho; (obtain ⟨i0, i1, i2, i3⟩ := HI2.out.four))
      go_ret
      exact ⟨by first | rfl | simp [h0] | simp, HO.out⟩
end Go.Proofs.YtoghojgajpfkkaaGreatDoor
