/-
  Right, Room, KidRoom of the program.
-/
import Derived.Test.YtjbbljnfgpggkaaDoorItm
set_option linter.unusedVariables false
namespace Go.Proofs.YtjbbljnfgpggkaaDoor
open Go.RowKit

section
variable (w : World) (A B : Option Addr) (n c m d : Nat) (s r g : Int)

set_option maxHeartbeats 3200000 in
theorem Right_c (x : Bool) (hg : Gens w) (hx : okay g n m s r = x) : Calls Tryd.prog 75 #[.int .i64 g, .agg #[.slice A n c, .slice B m d, .int .i64 s, .int .i64 r]] w (Told w (.bool x)) := by
  have HI : Hid (Blk (w.alloc (.cells #[.slice A n c, .slice B m d, .int .i64 s, .int .i64 r] 56)) w.heap.size 56 [.slice A n c, .slice B m d, .int .i64 s, .int .i64 r]) := Blk.new w 56 [.slice A n c, .slice B m d, .int .i64 s, .int .i64 r]
  have HO : Hid (Only (w.heap.size ≤ ·) w (w.alloc (.cells #[.slice A n c, .slice B m d, .int .i64 s, .int .i64 r] 56))) := (Only.refl _ w).alloc (fun _ h => h) _
  have HG : Hid (Gens (w.alloc (.cells #[.slice A n c, .slice B m d, .int .i64 s, .int .i64 r] 56))) := hg.later HO.out
  obtain ⟨v, hv⟩ : ∃ v, v = tr g 400 800 1600 := ⟨_, rfl⟩
  have HV : Hid (∀ W, Gens W → Calls Tryd.prog 85 #[.int .i64 g] W (Told W (.int .i64 v))) := fun W hW => by rw [hv]; exact MaxValue_c W g hW
  obtain ⟨a, ha⟩ : ∃ a, gen g = a := ⟨_, rfl⟩
  obtain ⟨b, hb⟩ : ∃ b, keyOk g n = b := ⟨_, rfl⟩
  obtain ⟨l, hl⟩ : ∃ l, long m s r = l := ⟨_, rfl⟩
  obtain ⟨p, hp⟩ : ∃ p, putOk m s r = p := ⟨_, rfl⟩
  have HA := Lib.hid ha
  have HB := Lib.hid hb
  have HL := Lib.hid hl
  have HP := Lib.hid hp
  unfold okay at hx
  rw [ha, hb, hl, hp, ← hv] at hx
  clear ha hb hl hp hv hg
  cases a
  · obtain rfl : false = x := hx
    go_enter Tryd.func75, Tryd.ntmps75
    go_wp2_with (first
      | (go_at_call 56; (with_reducible refine (Gen_c _ g).mono ?_); rintro e w' ⟨rfl, rfl⟩; rw [HA.out]))
    go_ret
    exact ⟨rfl, HO.out⟩
  cases b
  · obtain rfl : false = x := hx
    go_enter Tryd.func75, Tryd.ntmps75
    go_wp2_with (first
      | (go_at_call 56; (with_reducible refine (Gen_c _ g).mono ?_); rintro e w' ⟨rfl, rfl⟩; rw [HA.out])
      | (go_at_call 83; (with_reducible refine (keyMayBe_c _ _ _ _ _ _ HG.out HB.out).mono ?_); rintro e w1 ⟨rfl, ho⟩; (replace HG := Lib.hid (HG.out.later ho)); (replace HI := Lib.hid (HI.out.later ho)); (obtain ⟨hi0, hi1, hi2, hi3⟩ := HI.out.four); (replace HO := Lib.hid (on_new HO.out ho)); clear ho))
    go_ret
    exact ⟨rfl, HO.out⟩
  by_cases h : l ≤ v
  · obtain rfl : p = x := by rw [← hx]; simp [h]
    clear hx
    cases p
    all_goals
      go_enter Tryd.func75, Tryd.ntmps75
      go_wp2_with (first
        | (go_at_call 56; (with_reducible refine (Gen_c _ g).mono ?_); rintro e w' ⟨rfl, rfl⟩; rw [HA.out])
        | (go_at_call 83; (with_reducible refine (keyMayBe_c _ _ _ _ _ _ HG.out HB.out).mono ?_); rintro e w1 ⟨rfl, ho⟩; (replace HG := Lib.hid (HG.out.later ho)); (replace HI := Lib.hid (HI.out.later ho)); (obtain ⟨hi0, hi1, hi2, hi3⟩ := HI.out.four); (replace HO := Lib.hid (on_new HO.out ho)); clear ho)
        | (go_at_call 84; (with_reducible refine (Long_c _ _ _ _ _ _ _ _ _ _ HL.out).mono ?_); rintro e w2 ⟨rfl, ho⟩; (replace HG := Lib.hid (HG.out.later ho)); (replace HI := Lib.hid (HI.out.later ho)); (obtain ⟨hi0, hi1, hi2, hi3⟩ := HI.out.four); (replace HO := Lib.hid (on_new HO.out ho)); clear ho)
        | (go_at_call 85; (with_reducible refine (HV.out _ HG.out).mono ?_); rintro e w3 ⟨rfl, ho⟩; (replace HG := Lib.hid (HG.out.later ho)); (replace HI := Lib.hid (HI.out.later ho)); (obtain ⟨hi0, hi1, hi2, hi3⟩ := HI.out.four); (replace HO := Lib.hid (on_new HO.out ho)); clear ho)
        | (go_at_call 86; (with_reducible refine (placed_c _ _ _ _ _ _ _ _ _ _ HP.out).mono ?_); rintro e w4 ⟨rfl, ho⟩; (replace HG := Lib.hid (HG.out.later ho)); (replace HI := Lib.hid (HI.out.later ho)); (obtain ⟨hi0, hi1, hi2, hi3⟩ := HI.out.four); (replace HO := Lib.hid (on_new HO.out ho)); clear ho))
      go_ret
      exact ⟨rfl, HO.out⟩
  · obtain rfl : false = x := by rw [← hx]; simp [h]
    clear hx
    go_enter Tryd.func75, Tryd.ntmps75
    go_wp2_with (first
      | (go_at_call 56; (with_reducible refine (Gen_c _ g).mono ?_); rintro e w' ⟨rfl, rfl⟩; rw [HA.out])
      | (go_at_call 83; (with_reducible refine (keyMayBe_c _ _ _ _ _ _ HG.out HB.out).mono ?_); rintro e w1 ⟨rfl, ho⟩; (replace HG := Lib.hid (HG.out.later ho)); (replace HI := Lib.hid (HI.out.later ho)); (obtain ⟨hi0, hi1, hi2, hi3⟩ := HI.out.four); (replace HO := Lib.hid (on_new HO.out ho)); clear ho)
      | (go_at_call 84; (with_reducible refine (Long_c _ _ _ _ _ _ _ _ _ _ HL.out).mono ?_); rintro e w2 ⟨rfl, ho⟩; (replace HG := Lib.hid (HG.out.later ho)); (replace HI := Lib.hid (HI.out.later ho)); (obtain ⟨hi0, hi1, hi2, hi3⟩ := HI.out.four); (replace HO := Lib.hid (on_new HO.out ho)); clear ho)
      | (go_at_call 85; (with_reducible refine (HV.out _ HG.out).mono ?_); rintro e w3 ⟨rfl, ho⟩; (replace HG := Lib.hid (HG.out.later ho)); (replace HI := Lib.hid (HI.out.later ho)); (obtain ⟨hi0, hi1, hi2, hi3⟩ := HI.out.four); (replace HO := Lib.hid (on_new HO.out ho)); clear ho))
    go_ret
    first | exact ⟨rfl, HO.out⟩ | exact ⟨congrArg (fun x => Ending.returned (.bool x)) (decide_eq_false (by omega)), HO.out⟩

set_option maxHeartbeats 3200000 in
theorem KidRoom_c (hg : Gens w) (hn : n ≤ 1000000) : Calls Tryd.prog 76 #[.int .i64 g, .slice A n c] w (Told w (.int .i64 (kid g n))) := by
  have HG := Lib.hid hg
  have HO : Hid (Only (w.heap.size ≤ ·) w w) := Only.refl _ w
  obtain ⟨a, ha⟩ : ∃ a, gen g = a := ⟨_, rfl⟩
  have HA := Lib.hid ha
  obtain ⟨i, hi⟩ : ∃ i, i = tr g 4 8 8 := ⟨_, rfl⟩
  have HW : Hid (∀ W, Gens W → Calls Tryd.prog 82 #[.int .i64 g] W (Told W (.int .i64 i))) := fun W hW => by rw [hi]; exact IdWidth_c W g hW
  have hi8 : 0 ≤ i ∧ i ≤ 8 := by
    rw [hi]
    unfold tr
    split
    · omega
    · split
      · omega
      · split <;> omega
  have HK : Hid (kid g n = if a = true then 1 + n + i else 0) := by show _ = _; unfold kid; rw [ha, hi]
  rw [HK.out]
  clear ha hi hg HK
  cases a
  · go_enter Tryd.func76, Tryd.ntmps76
    go_wp2_with (first
      | (go_at_call 56; (with_reducible refine (Gen_c _ g).mono ?_); rintro e w' ⟨rfl, rfl⟩; rw [HA.out]))
    go_ret
    exact ⟨rfl, HO.out⟩
  · go_enter Tryd.func76, Tryd.ntmps76
    go_wp2_with (first
      | (go_at_call 56; (with_reducible refine (Gen_c _ g).mono ?_); rintro e w' ⟨rfl, rfl⟩; rw [HA.out])
      | (go_at_call 82; (with_reducible refine (HW.out _ HG.out).mono ?_); rintro e w1 ⟨rfl, ho⟩; (replace HG := Lib.hid (HG.out.later ho)); (replace HO := Lib.hid (on_new HO.out ho)); clear ho))
    go_ret
    trace_state
    exact ⟨rfl, HO.out⟩
end
end Go.Proofs.YtjbbljnfgpggkaaDoor
