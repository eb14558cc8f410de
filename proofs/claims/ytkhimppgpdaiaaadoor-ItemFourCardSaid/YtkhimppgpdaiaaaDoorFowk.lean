/-
  ItemFour: the walk.
-/
import Derived.Test.YtkhimppgpdaiaaaDoorAliv
set_option linter.unusedVariables false
namespace Go.Proofs.YtkhimppgpdaiaaaDoor
open Go.RowKit

theorem okay_room {g : Int} {n m : Nat} {s r : Int} (h : okay g n m s r = true) : 0 ≤ room g n m r ∧ 4 * room g n m r ≤ tr g 248 240 240 := by
  unfold okay keyOk putOk at h
  rw [Bool.and_eq_true, Bool.and_eq_true, Bool.and_eq_true, decide_eq_true_eq, decide_eq_true_eq, decide_eq_true_eq] at h
  obtain ⟨hg, ⟨h1, h2⟩, h3, h4⟩ := h
  unfold room
  rw [if_pos hg]
  by_cases hf : far m r = true
  · rw [if_pos hf]
    rcases (gen_iff g).1 hg with rfl | rfl | rfl <;> simp only [tr] at h2 ⊢ <;> simp at h2 ⊢ <;> omega
  · rw [if_neg hf]
    have hm : m ≤ 32 := by
      unfold far at hf
      rw [decide_eq_true_eq] at hf
      omega
    rcases (gen_iff g).1 hg with rfl | rfl | rfl <;> simp only [tr] at h2 ⊢ <;> simp at h2 ⊢ <;> omega

section
variable (A B : Nat → Option Addr) (n c m d : Nat → Nat) (s r : Nat → Int)
def icells (k : Nat) : List Value := [.slice (A k) (n k) (c k), .slice (B k) (m k) (d k), .int .i64 (s k), .int .i64 (r k)]
def tot (g : Int) : Nat → Int
  | 0 => 0
  | k + 1 => tot g k + room g (n k) (m k) (r k)
theorem tot_le (g : Int) : ∀ k, (∀ j, j < k → okay g (n j) (m j) (s j) (r j) = true) → 0 ≤ tot n m r g k ∧ 4 * tot n m r g k ≤ k * tr g 248 240 240
  | 0, _ => ⟨Int.le_refl 0, by simp [tot]⟩
  | k + 1, h => by
    have ih := tot_le g k (fun j hj => h j (by omega))
    have := okay_room (h k (by omega))
    rw [tot]
    have e : ((k + 1 : Nat) : Int) * tr g 248 240 240 = k * tr g 248 240 240 + tr g 248 240 240 := by rw [Int.natCast_add, Int.add_mul]; simp
    omega
theorem cap_range (g : Int) : 0 ≤ tr g 248 240 240 ∧ tr g 248 240 240 ≤ 248 := by
  unfold tr
  split
  · omega
  · split
    · omega
    · split <;> omega
theorem four_index (k : Nat) (hk : k < 4) (W : World) : (Instr.index 46 (.agg #[.slice (A 0) (n 0) (c 0), .slice (B 0) (m 0) (d 0), .int .i64 (s 0), .int .i64 (r 0), .slice (A 1) (n 1) (c 1), .slice (B 1) (m 1) (d 1), .int .i64 (s 1), .int .i64 (r 1), .slice (A 2) (n 2) (c 2), .slice (B 2) (m 2) (d 2), .int .i64 (s 2), .int .i64 (r 2), .slice (A 3) (n 3) (c 3), .slice (B 3) (m 3) (d 3), .int .i64 (s 3), .int .i64 (r 3)]) (.int .i64 (k : Int))).run Tryd.prog W = .ok (.agg #[.slice (A k) (n k) (c k), .slice (B k) (m k) (d k), .int .i64 (s k), .int .i64 (r k)]) W := by
  rcases (by omega : k = 0 ∨ k = 1 ∨ k = 2 ∨ k = 3) with rfl | rfl | rfl | rfl <;> kernel_rfl

set_option maxRecDepth 100000 in
set_option maxHeartbeats 12800000 in
theorem four_walk (w : World) (g : Int) (hg : Gens w) : Calls Tryd.prog 7 #[.int .i64 g, .agg #[.slice (A 0) (n 0) (c 0), .slice (B 0) (m 0) (d 0), .int .i64 (s 0), .int .i64 (r 0), .slice (A 1) (n 1) (c 1), .slice (B 1) (m 1) (d 1), .int .i64 (s 1), .int .i64 (r 1), .slice (A 2) (n 2) (c 2), .slice (B 2) (m 2) (d 2), .int .i64 (s 2), .int .i64 (r 2), .slice (A 3) (n 3) (c 3), .slice (B 3) (m 3) (d 3), .int .i64 (s 3), .int .i64 (r 3)]] w (Told w (.bool true)) := by
  have HO : Hid (Only (w.heap.size ≤ ·) w (w.alloc (.cells #[.slice (A 0) (n 0) (c 0), .slice (B 0) (m 0) (d 0), .int .i64 (s 0), .int .i64 (r 0), .slice (A 1) (n 1) (c 1), .slice (B 1) (m 1) (d 1), .int .i64 (s 1), .int .i64 (r 1), .slice (A 2) (n 2) (c 2), .slice (B 2) (m 2) (d 2), .int .i64 (s 2), .int .i64 (r 2), .slice (A 3) (n 3) (c 3), .slice (B 3) (m 3) (d 3), .int .i64 (s 3), .int .i64 (r 3)] 46))) := (Only.refl _ w).alloc (fun _ h => h) _
  have HG0 : Hid (Gens w) := hg
  have HX : Hid (∀ (k : Nat), k < 4 → ∀ W : World, (Instr.index 46 (.agg #[.slice (A 0) (n 0) (c 0), .slice (B 0) (m 0) (d 0), .int .i64 (s 0), .int .i64 (r 0), .slice (A 1) (n 1) (c 1), .slice (B 1) (m 1) (d 1), .int .i64 (s 1), .int .i64 (r 1), .slice (A 2) (n 2) (c 2), .slice (B 2) (m 2) (d 2), .int .i64 (s 2), .int .i64 (r 2), .slice (A 3) (n 3) (c 3), .slice (B 3) (m 3) (d 3), .int .i64 (s 3), .int .i64 (r 3)]) (.int .i64 (k : Int))).run Tryd.prog W = .ok (.agg #[.slice (A k) (n k) (c k), .slice (B k) (m k) (d k), .int .i64 (s k), .int .i64 (r k)]) W) := fun k hk W => four_index A B n c m d s r k hk W
  obtain ⟨v, hv⟩ : ∃ v, v = tr g 248 240 240 := ⟨_, rfl⟩
  have HC : Hid (∀ W, Gens W → Calls Tryd.prog 19 #[.int .i64 g] W (Told W (.int .i64 v))) := fun W hW => by rw [hv]; exact Cap_c W g hW
  have HCR := Lib.hid (cap_range g)
  have HTL := Lib.hid (tot_le n m s r g)
  rw [← hv] at HCR HTL
  clear hg hv
  go_enter Tryd.func7, Tryd.ntmps7
  go_wp2
  go_loopw [5, 9] (fun t i wr => ∃ (k : Nat), k ≤ 4 ∧ i = .int .i64 k ∧ t = .int .i64 (tot n m r g k) ∧ Hid (∀ j, j < k → okay g (n j) (m j) (s j) (r j) = true) ∧ Only (w.heap.size ≤ ·) w wr) (fun _ i _ => 4 - (intOf i).toNat)
  case atStart => exact ⟨0, by omega, rfl, rfl, fun j h => by omega, HO.out⟩
  case round =>
    obtain ⟨k, hk, rfl, rfl, HK, ho⟩ := hrel
    clear HO
    have HO := Lib.hid ho
    have HG := Lib.hid (HG0.out.later ho)
    clear ho
    obtain ⟨t, ht⟩ : ∃ t, t = tot n m r g k := ⟨_, rfl⟩
    have HT := Lib.hid ht
    have htl := HTL.out k HK.out
    have hcr := HCR.out
    rw [← ht] at htl ⊢
    clear ht
    by_cases hlt : k < 4
    · have hix := HX.out k hlt
      have hk4 : (k : Int) < 4 := by omega
      have HB : Hid (Blk (wr.alloc (.cells #[.slice (A k) (n k) (c k), .slice (B k) (m k) (d k), .int .i64 (s k), .int .i64 (r k)] 27)) wr.heap.size 27 [.slice (A k) (n k) (c k), .slice (B k) (m k) (d k), .int .i64 (s k), .int .i64 (r k)]) := Blk.new wr 27 [.slice (A k) (n k) (c k), .slice (B k) (m k) (d k), .int .i64 (s k), .int .i64 (r k)]
      have ho1 : Only (wr.heap.size ≤ ·) wr (wr.alloc (.cells #[.slice (A k) (n k) (c k), .slice (B k) (m k) (d k), .int .i64 (s k), .int .i64 (r k)] 27)) := (Only.refl _ wr).alloc (fun _ h => h) _
      replace HO := Lib.hid (on_new HO.out ho1)
      replace HG := Lib.hid (HG.out.later ho1)
      obtain ⟨b, hb⟩ : ∃ b, short (n k) (m k) = b := ⟨_, rfl⟩
      obtain ⟨x, hx⟩ : ∃ x, okay g (n k) (m k) (s k) (r k) = x := ⟨_, rfl⟩
      have HS := Lib.hid hb
      have HR := Lib.hid hx
      clear ho1 hb hx HX
      have hk3 : (k : Int) ≤ 3 := by omega
      cases b
      · clear htl hcr
        go_wp2_with (first
          | (go_at_call 21; (with_reducible refine (few_c _ _ _ _ _ _ _ _ _ _ HS.out).mono ?_); rintro e w1 ⟨rfl, ho⟩; (replace HG := Lib.hid (HG.out.later ho)); (replace HB := Lib.hid (HB.out.later ho)); (obtain ⟨hb0, hb1, hb2, hb3⟩ := HB.out.four); (replace HO := Lib.hid (on_new HO.out ho)); clear ho)
          | (go_at_call 9; (with_reducible refine (alive_c _ HG.out).mono ?_); rintro e w4 ⟨rfl, ho⟩; (replace HG := Lib.hid (HG.out.later ho)); (replace HO := Lib.hid (on_new HO.out ho)); clear ho))
        go_ret
        exact ⟨rfl, HO.out⟩
      cases x
      · clear htl hcr
        go_wp2_with (first
          | (go_at_call 21; (with_reducible refine (few_c _ _ _ _ _ _ _ _ _ _ HS.out).mono ?_); rintro e w1 ⟨rfl, ho⟩; (replace HG := Lib.hid (HG.out.later ho)); (replace HB := Lib.hid (HB.out.later ho)); (obtain ⟨hb0, hb1, hb2, hb3⟩ := HB.out.four); (replace HO := Lib.hid (on_new HO.out ho)); clear ho)
          | (go_at_call 22; (with_reducible refine (Right_c _ _ _ _ _ _ _ _ _ _ _ HG.out HR.out).mono ?_); rintro e w2 ⟨rfl, ho⟩; (replace HG := Lib.hid (HG.out.later ho)); (replace HB := Lib.hid (HB.out.later ho)); (obtain ⟨hb0, hb1, hb2, hb3⟩ := HB.out.four); (replace HO := Lib.hid (on_new HO.out ho)); clear ho)
          | (go_at_call 9; (with_reducible refine (alive_c _ HG.out).mono ?_); rintro e w4 ⟨rfl, ho⟩; (replace HG := Lib.hid (HG.out.later ho)); (replace HO := Lib.hid (on_new HO.out ho)); clear ho))
        go_ret
        exact ⟨rfl, HO.out⟩
      have HN : Hid (n k ≤ 1000000 ∧ m k ≤ 1000000) := by
        have h := HS.out
        unfold short at h
        rw [decide_eq_true_eq] at h
        exact ⟨by omega, by omega⟩
      have HT' : Hid (t + room g (n k) (m k) (r k) = tot n m r g (k + 1)) := by show _ = _; rw [HT.out]; rfl
      have HK' : Hid (∀ j, j < k + 1 → okay g (n j) (m j) (s j) (r j) = true) := fun j hj => by
        rcases Nat.lt_or_ge j k with h | h
        · exact HK.out j h
        · obtain rfl : j = k := by omega
          exact HR.out
      have hrm := okay_room HR.out
      obtain ⟨q, hq⟩ : ∃ q, q = room g (n k) (m k) (r k) := ⟨_, rfl⟩
      have hkv : ((k : Nat) : Int) * v ≤ 3 * 248 := by
        rcases (by omega : k = 0 ∨ k = 1 ∨ k = 2 ∨ k = 3) with rfl | rfl | rfl | rfl <;> simp <;> omega
      have hq2 : 0 ≤ q ∧ 4 * q ≤ 248 := by
        rw [hq]
        have := cap_range g
        omega
      have HRM : Hid (∀ W, Gens W → Calls Tryd.prog 28 #[.int .i64 g, .agg #[.slice (A k) (n k) (c k), .slice (B k) (m k) (d k), .int .i64 (s k), .int .i64 (r k)]] W (Told W (.int .i64 q))) := fun W hW => by rw [hq]; exact Room_c W _ _ _ _ _ _ _ _ g hW HN.out.1 HN.out.2
      rw [← hq] at HT'
      have htq : 0 ≤ t + q ∧ t + q ≤ 2000 := by omega
      clear htl hcr hrm hq hkv
      go_wp2_with (first
        | (go_at_call 21; (with_reducible refine (few_c _ _ _ _ _ _ _ _ _ _ HS.out).mono ?_); rintro e w1 ⟨rfl, ho⟩; (replace HG := Lib.hid (HG.out.later ho)); (replace HB := Lib.hid (HB.out.later ho)); (obtain ⟨hb0, hb1, hb2, hb3⟩ := HB.out.four); (replace HO := Lib.hid (on_new HO.out ho)); clear ho)
        | (go_at_call 22; (with_reducible refine (Right_c _ _ _ _ _ _ _ _ _ _ _ HG.out HR.out).mono ?_); rintro e w2 ⟨rfl, ho⟩; (replace HG := Lib.hid (HG.out.later ho)); (replace HB := Lib.hid (HB.out.later ho)); (obtain ⟨hb0, hb1, hb2, hb3⟩ := HB.out.four); (replace HO := Lib.hid (on_new HO.out ho)); clear ho)
        | (go_at_call 28; (with_reducible refine (HRM.out _ HG.out).mono ?_); rintro e w3 ⟨rfl, ho⟩; (replace HG := Lib.hid (HG.out.later ho)); (replace HB := Lib.hid (HB.out.later ho)); (obtain ⟨hb0, hb1, hb2, hb3⟩ := HB.out.four); (replace HO := Lib.hid (on_new HO.out ho)); clear ho)
        | (go_at_call 9; (with_reducible refine (alive_c _ HG.out).mono ?_); rintro e w4 ⟨rfl, ho⟩; (replace HG := Lib.hid (HG.out.later ho)); (replace HO := Lib.hid (on_new HO.out ho)); clear ho))
      go_roundw
      case rel => exact ⟨k + 1, by omega, by go_num, by rw [← HT'.out], HK', HO.out⟩
      case measure => simp [intOf]; omega
    · obtain rfl : k = 4 := by omega
      have hle : t ≤ v := by omega
      clear htl hcr HX
      go_wp2_with (first
        | (go_at_call 9; (with_reducible refine (alive_c _ HG.out).mono ?_); rintro e w4 ⟨rfl, ho⟩; (replace HG := Lib.hid (HG.out.later ho)); (replace HO := Lib.hid (on_new HO.out ho)); clear ho)
        | (go_at_call 19; (with_reducible refine (HC.out _ HG.out).mono ?_); rintro e w5 ⟨rfl, ho⟩; (replace HG := Lib.hid (HG.out.later ho)); (replace HO := Lib.hid (on_new HO.out ho)); clear ho))
      go_ret
      exact ⟨rfl, HO.out⟩
end
end Go.Proofs.YtkhimppgpdaiaaaDoor
