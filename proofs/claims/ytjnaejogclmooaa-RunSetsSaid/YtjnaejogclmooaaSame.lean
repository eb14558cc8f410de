/-
  few, old and of of the law; Same of the document.
-/
import Derived.Test.YtjnaejogclmooaaRigt
import Derived.OwnWalk
import Derived.Maps.AppendAt
set_option linter.unusedVariables false
namespace Go.Proofs.Ytjnaejogclmooaa
open Go.RowKit

def short (l : List R) : Bool := decide (l.length ≤ 60) && l.all fun x => !(may x && decide (600 < x.1 + x.2))

set_option maxRecDepth 100000 in
set_option maxHeartbeats 3200000 in
theorem few_c (w : World) (A : Option Addr) (n c : Nat) (l : List R) (h : Rs w A l) (hl : l.length = n) (hn : n ≤ 9223372036854775807) :
    Calls Try.prog 10 #[.slice A n c] w (Told w (.bool (short l))) := by
  have HS := Lib.hid h
  have HL := Lib.hid hl
  clear h hl
  obtain ⟨b, hb⟩ : ∃ b, b = short l := ⟨_, rfl⟩
  rw [← hb]
  by_cases h60 : n ≤ 60
  · have HB : Hid (b = ((l.drop 0).all fun x => !(may x && decide (600 < x.1 + x.2)))) := by
      rw [hb]
      unfold short
      rw [HL.out, decide_eq_true h60]
      rfl
    clear hb
    have h60' : ¬ (60 : Int) < (n : Int) := by omega
    go_enter Try.func10, Try.ntmps10
    go_wp2
    go_loopw [10] (fun i wr => ∃ (k : Nat), k ≤ n ∧ i = .int .i64 k ∧ Hid (b = ((l.drop k).all fun x => !(may x && decide (600 < x.1 + x.2)))) ∧ Only (w.heap.size ≤ ·) w wr) (fun i _ => n - (intOf i).toNat)
    case atStart => exact ⟨0, Nat.zero_le _, rfl, HB, Only.refl _ _⟩
    case round =>
      obtain ⟨k, hk, rfl, HK, ho⟩ := hrel
      have HO := Lib.hid ho
      clear ho
      by_cases hlt : k < n
      · obtain ⟨g, off, x, rfl, hg, hx, hc1, hc2⟩ := (HS.out.later HO.out).at_ (k := k) (by rw [HL.out]; exact hlt)
        have HT : Hid (((l.drop k).all fun x => !(may x && decide (600 < x.1 + x.2))) = (!(may x && decide (600 < x.1 + x.2)) && (l.drop (k + 1)).all fun x => !(may x && decide (600 < x.1 + x.2)))) := by
          rw [drop_at hx]; rfl
        obtain ⟨x1, x2⟩ := x
        clear hx
        obtain ⟨m, hm⟩ : ∃ m, m = may (x1, x2) := ⟨_, rfl⟩
        have HM := Lib.hid hm
        clear hm
        have HMC : Hid (∀ W : World, Calls Try.prog 24 #[.agg #[.int .i64 x1, .int .i64 x2]] W fun e w' => e = .returned (.bool m) ∧ Only (W.heap.size ≤ ·) W w') := fun W => by rw [HM.out]; exact May_c W x1 x2
        have HB0 : Hid (Blk (wr.alloc (.cells #[.int .i64 x1, .int .i64 x2] 40)) wr.heap.size 40 [.int .i64 x1, .int .i64 x2]) := Blk.new wr _ [.int .i64 x1, .int .i64 x2]
        cases m
        · have HN : Hid (b = ((l.drop (k + 1)).all fun x => !(may x && decide (600 < x.1 + x.2)))) := by rw [HK.out, HT.out, ← HM.out]; rfl
          go_wp2_with (go_at_call 24; refine (HMC.out _).mono ?_; rintro e w1 ⟨rfl, ho1⟩; have HO1 := Lib.hid (on_new (HO.out.alloc (fun _ h => h) (.cells #[.int .i64 x1, .int .i64 x2] 40)) ho1); clear ho1)
          go_roundw
          case rel => exact ⟨k + 1, by omega, by go_num, HN, HO1.out⟩
          case measure => simp [intOf]; omega
        · have hmx := (may_iff (x1, x2)).1 HM.out.symm
          simp only at hmx
          by_cases hbig : 600 < x1 + x2
          · obtain rfl : b = false := by rw [HK.out, HT.out, ← HM.out, decide_eq_true hbig]; rfl
            go_wp2_with (go_at_call 24; refine (HMC.out _).mono ?_; rintro e w1 ⟨rfl, ho1⟩; have HO1 := Lib.hid (on_new (HO.out.alloc (fun _ h => h) (.cells #[.int .i64 x1, .int .i64 x2] 40)) ho1); have hb1 := HB0.out.later ho1; have hq1 := hb1.cell 0; have hq2 := hb1.cell 1; simp at hq1 hq2; clear ho1 hb1)
            go_ret
            exact ⟨rfl, HO1.out⟩
          · have HN : Hid (b = ((l.drop (k + 1)).all fun x => !(may x && decide (600 < x.1 + x.2)))) := by rw [HK.out, HT.out, ← HM.out, decide_eq_false hbig]; rfl
            go_wp2_with (go_at_call 24; refine (HMC.out _).mono ?_; rintro e w1 ⟨rfl, ho1⟩; have HO1 := Lib.hid (on_new (HO.out.alloc (fun _ h => h) (.cells #[.int .i64 x1, .int .i64 x2] 40)) ho1); have hb1 := HB0.out.later ho1; have hq1 := hb1.cell 0; have hq2 := hb1.cell 1; simp at hq1 hq2; clear ho1 hb1)
            go_roundw
            case rel => exact ⟨k + 1, by omega, by go_num, HN, HO1.out⟩
            case measure => simp [intOf]; omega
      · obtain rfl : k = n := by omega
        have hkm : ¬ (k : Int) < (k : Int) := by omega
        obtain rfl : b = true := by rw [HK.out, List.drop_eq_nil_of_le (by rw [HL.out]; exact Nat.le_refl _)]; rfl
        go_wp2
        go_ret
        exact ⟨rfl, HO.out⟩
  · obtain rfl : b = false := by rw [hb]; unfold short; rw [HL.out, decide_eq_false h60]; rfl
    have h60' : (60 : Int) < (n : Int) := by omega
    go_enter Try.func10, Try.ntmps10
    go_wp2
    go_ret
    exact ⟨rfl, Only.refl _ _⟩

end Go.Proofs.Ytjnaejogclmooaa
