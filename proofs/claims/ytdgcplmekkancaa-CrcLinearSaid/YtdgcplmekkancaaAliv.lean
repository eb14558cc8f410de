/-
  alive.
-/
import Derived.Test.YtdgcplmekkancaaSald
import Derived.Lib.SlBytesConst
set_option linter.unusedVariables false
namespace Go.Proofs.Ytdgcplmekkancaa
open Go.RowKit

def nine : Bytes := [49, 50, 51, 52, 53, 54, 55, 56, 57]
def seven : Bytes := [1, 2, 0, 0, 0, 0, 3]
theorem sum_nine : sum nine = 3808858755 := by decide +kernel
theorem sum_four : sum (nine.take 4) = 4131058926 := by decide +kernel
theorem upd_five : upd 4131058926 (nine.drop 4) = 3808858755 := by decide +kernel
theorem seal_two : isSealed (sealB seven 2) 2 = true := by decide +kernel
theorem seal_one : isSealed (sealB seven 2) 1 = false := by decide +kernel
theorem sum_nil : sum [] = 0 := by decide +kernel

theorem txt_lit (w : World) (cs : Array Value) (fz : Nat × Nat) (n : Nat) (xs : Bytes) (h : cs.toList = cb xs) (hn : xs.length = n) : Txt (w.alloc (.cells cs 5 fz)) (some ⟨w.heap.size, 0, none⟩) n xs := by
  refine ⟨hn, fun _ => ⟨_, rfl, fun j u hu => ?_⟩⟩
  rw [Addr.add_mid, Nat.zero_add, cell_of_row _ w.heap.size j cs 5 fz (heap_alloc_new w _), ← hu, ← h]
  simp

set_option maxRecDepth 100000 in
set_option maxHeartbeats 1600000 in
theorem alive_c (w : World) :
    Calls Try.prog 8 #[] w fun e w' => e = .returned (.bool true) ∧ Only (w.heap.size ≤ ·) w w' := by
  obtain ⟨W1, hW1⟩ : ∃ W1, W1 = w.alloc (.cells #[.int .u8 49, .int .u8 50, .int .u8 51, .int .u8 52, .int .u8 53, .int .u8 54, .int .u8 55, .int .u8 56, .int .u8 57] 5 (9, 10)) := ⟨_, rfl⟩
  obtain ⟨W2, hW2⟩ : ∃ W2, W2 = W1.alloc (.cells #[.int .u8 1, .int .u8 2, .int .u8 0, .int .u8 0, .int .u8 0, .int .u8 0, .int .u8 3] 5) := ⟨_, rfl⟩
  have hs1 : W1.heap.size = w.heap.size + 1 := by rw [hW1]; simp
  have HO1 : Hid (Only (w.heap.size ≤ ·) w W1) := by rw [hW1]; exact (Only.refl _ w).alloc (fun _ h => h) _
  have HO2 : Hid (Only (w.heap.size ≤ ·) w W2) := by rw [hW2]; exact HO1.out.alloc (fun _ h => h) _
  have HT1 : Hid (Txt W1 (some ⟨w.heap.size, 0, none⟩) 9 nine) := by rw [hW1]; exact txt_lit w _ _ 9 nine rfl rfl
  have HT7 : Hid (Txt W2 (some ⟨w.heap.size + 1, 0, none⟩) 7 seven) := by
    have h := txt_lit W1 #[.int .u8 1, .int .u8 2, .int .u8 0, .int .u8 0, .int .u8 0, .int .u8 0, .int .u8 3] (0, 0) 7 seven rfl rfl
    rw [hs1, ← hW2] at h
    exact h
  have HT9 : Hid (Txt W2 (some ⟨w.heap.size, 0, none⟩) 9 nine) := by
    refine HT1.out.later ?_
    rw [hW2]
    exact (Only.refl _ W1).alloc (fun _ h => h) _
  have HE1 := Lib.hid hW1
  have HE2 := Lib.hid hW2
  clear hW1 hW2 hs1 HT1 HO1
  have kc := fun (w : World) (C : Array Value) (n c : Nat) => Lib.run_convert_bytes_const (P := Try.prog) w 22 5 C n c Try.underlying22 Try.underlying5
  go_enter Try.func8, Try.ntmps8
  go_wp2_with (first | (go_at_call 12; rw [← HE1.out, ← HE2.out]; refine (Seal_c _ _ 7 7 seven HT7.out (fun e => by cases e) (by omega) (by omega) (by omega) 2 (by omega) (by omega)).mono ?_; rintro e w3 ⟨v, rfl, hl3, hown, ho3⟩; obtain ⟨A3, c3, rfl, ht3, ha3, hc3, hm3, hb3⟩ := txt_of_own hown))
  have HT9' : Hid (Txt w3 (some ⟨w.heap.size, 0, none⟩) 9 nine) := HT9.out.later ho3
  obtain ⟨g, hg⟩ : ∃ g, g = w.heap.size := ⟨_, rfl⟩
  rw [← hg] at HT9' ⊢
  have HT5 : Hid (Txt w3 (some ⟨g, 4, none⟩) 5 (nine.drop 4)) := HT9'.out.drop 4
  have HC9 : Hid (∀ W, Only (w3.heap.size ≤ ·) w3 W → Calls Try.prog 9 #[.slice (some ⟨g, 0, none⟩) 9 9] W fun e w' => e = .returned (.int .u32 3808858755) ∧ Only (W.heap.size ≤ ·) W w') :=
    fun W hW => (Of_c W _ 9 9 nine (HT9'.out.later hW) (by omega)).mono fun e w' ⟨h, h'⟩ => ⟨by rw [h, sum_nine]; rfl, h'⟩
  have HC4 : Hid (∀ W, Only (w3.heap.size ≤ ·) w3 W → Calls Try.prog 9 #[.slice (some ⟨g, 0, none⟩) 4 9] W fun e w' => e = .returned (.int .u32 4131058926) ∧ Only (W.heap.size ≤ ·) W w') :=
    fun W hW => (Of_c W _ 4 9 (nine.take 4) ((HT9'.out.take 4 (by omega)).later hW) (by omega)).mono fun e w' ⟨h, h'⟩ => ⟨by rw [h, sum_four]; rfl, h'⟩
  have HC5 : Hid (∀ W, Only (w3.heap.size ≤ ·) w3 W → Calls Try.prog 11 #[.int .u32 4131058926, .slice (some ⟨g, 4, none⟩) 5 5] W fun e w' => e = .returned (.int .u32 3808858755) ∧ Only (W.heap.size ≤ ·) W w') :=
    fun W hW => (Update_c W 4131058926 (by omega) _ 5 5 (nine.drop 4) (HT5.out.later hW) (by omega)).mono fun e w' ⟨h, h'⟩ => ⟨by rw [h, upd_five]; rfl, h'⟩
  have HC0 : Hid (∀ W, Only (w3.heap.size ≤ ·) w3 W → Calls Try.prog 9 #[.slice none 0 0] W fun e w' => e = .returned (.int .u32 0) ∧ Only (W.heap.size ≤ ·) W w') :=
    fun W hW => (Of_c W none 0 0 [] (Txt.none W none) (by omega)).mono fun e w' ⟨h, h'⟩ => ⟨by rw [h, sum_nil]; rfl, h'⟩
  have hcm : c3 ≤ 9223372036854775807 := by simp only [maxLen] at hm3; omega
  have HS2 : Hid (∀ W, Only (w3.heap.size ≤ ·) w3 W → Calls Try.prog 15 #[.slice A3 7 c3, .int .i64 2] W fun e w' => e = .returned (.bool true) ∧ Only (W.heap.size ≤ ·) W w') :=
    fun W hW => (Sealed_c W A3 7 c3 _ (ht3.later hW) ha3 (by omega) hc3 hcm 2 (by omega) (by omega)).mono fun e w' ⟨h, h'⟩ => ⟨by rw [h, seal_two], h'⟩
  have HS1 : Hid (∀ W, Only (w3.heap.size ≤ ·) w3 W → Calls Try.prog 15 #[.slice A3 7 c3, .int .i64 1] W fun e w' => e = .returned (.bool false) ∧ Only (W.heap.size ≤ ·) W w') :=
    fun W hW => (Sealed_c W A3 7 c3 _ (ht3.later hW) ha3 (by omega) hc3 hcm 1 (by omega) (by omega)).mono fun e w' ⟨h, h'⟩ => ⟨by rw [h, seal_one], h'⟩
  have HOE : Hid (Only (w.heap.size ≤ ·) w w3) := HO2.out.trans (ho3.mono fun k h => Nat.le_trans HO2.out.size h)
  clear kc HE1 HE2 HO2 HT7 HT9 ho3 hown ht3 ha3 hm3 hb3 hl3 hg hcm HT9' HT5 hc3
  go_region_held3 (fun w' => Only (w3.heap.size ≤ ·) w3 w') (first | assumption | exact (Only.refl _ w3).drew) (first  | (go_at_call 9; with_reducible refine (HC9.out _ (by assumption)).mono ?_; rintro e w9 ⟨rfl, ho9⟩; have hO9 : Only (w3.heap.size ≤ ·) w3 w9 := Only.trans (by assumption) (ho9.mono fun k h => Nat.le_trans (Only.size (by assumption)) h)) | (go_at_call 9; with_reducible refine (HC4.out _ (by assumption)).mono ?_; rintro e w9 ⟨rfl, ho9⟩; have hO9 : Only (w3.heap.size ≤ ·) w3 w9 := Only.trans (by assumption) (ho9.mono fun k h => Nat.le_trans (Only.size (by assumption)) h)) | (go_at_call 9; with_reducible refine (HC0.out _ (by assumption)).mono ?_; rintro e w9 ⟨rfl, ho9⟩; have hO9 : Only (w3.heap.size ≤ ·) w3 w9 := Only.trans (by assumption) (ho9.mono fun k h => Nat.le_trans (Only.size (by assumption)) h)) | (go_at_call 11; with_reducible refine (HC5.out _ (by assumption)).mono ?_; rintro e w9 ⟨rfl, ho9⟩; have hO9 : Only (w3.heap.size ≤ ·) w3 w9 := Only.trans (by assumption) (ho9.mono fun k h => Nat.le_trans (Only.size (by assumption)) h)) | (go_at_call 15; with_reducible refine (HS2.out _ (by assumption)).mono ?_; rintro e w9 ⟨rfl, ho9⟩; have hO9 : Only (w3.heap.size ≤ ·) w3 w9 := Only.trans (by assumption) (ho9.mono fun k h => Nat.le_trans (Only.size (by assumption)) h)) | (go_at_call 15; with_reducible refine (HS1.out _ (by assumption)).mono ?_; rintro e w9 ⟨rfl, ho9⟩; have hO9 : Only (w3.heap.size ≤ ·) w3 w9 := Only.trans (by assumption) (ho9.mono fun k h => Nat.le_trans (Only.size (by assumption)) h)))
  all_goals
    go_wp2
    go_ret
    exact ⟨rfl, HOE.out.trans (Only.mono (by assumption) fun k h => Nat.le_trans HOE.out.size h)⟩
end Go.Proofs.Ytdgcplmekkancaa
