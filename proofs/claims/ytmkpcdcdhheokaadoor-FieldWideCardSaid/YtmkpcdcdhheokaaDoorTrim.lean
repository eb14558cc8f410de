/-
  bytes.HasPrefix; bytes.Trim of noughts.
-/
import Derived.Test.YtmkpcdcdhheokaaDoorAliv
import Derived.Deep.QuietTactic
import Derived.BigQuiet
set_option linter.unusedVariables false
namespace Go.Proofs.YtmkpcdcdhheokaaDoor
open Go.RowKit

set_option maxRecDepth 100000 in
theorem HasPrefix_c (w : World) (A B : Option Addr) (c k : Nat) (xs ys : Bytes) (h1 : Src w (.slice A xs.length c) xs) (h2 : Src w (.slice B ys.length k) ys) (hm : ys.length ≤ xs.length) (he : xs.take ys.length = ys) :
    Calls Tryd.prog 9 #[.slice A xs.length c, .slice B ys.length k] w fun e w' => e = .returned (.bool true) ∧ w = w' := by
  have HT1 : Hid (Src w (.slice A ys.length c) ys) := by
    obtain ⟨A', c', hv, ht, h3, h4, h5⟩ := h1
    injection hv with e1 e2 e3
    subst e1 e3
    refine ⟨A, c, rfl, ?_, h3, by omega, h5⟩
    rcases Nat.eq_zero_or_pos ys.length with h0 | h0
    · obtain rfl : ys = [] := List.eq_nil_of_length_eq_zero h0
      exact Txt.nil_ _ _
    · obtain ⟨ad, rfl, _⟩ := ht.2 (by omega)
      have := ht.take ys.length hm
      rwa [he] at this
  have HT2 := Lib.hid h2
  obtain ⟨n, hn⟩ : ∃ n, n = xs.length := ⟨_, rfl⟩
  obtain ⟨m, hm'⟩ : ∃ m, m = ys.length := ⟨_, rfl⟩
  have hnc : n ≤ c := by
    obtain ⟨A', c', hv, _, _, h4, _⟩ := h1
    injection hv with e1 e2 e3
    subst e3
    omega
  rw [← hn, ← hm'] at hm ⊢
  rw [← hm'] at HT1 HT2
  have i1 : (m : Int) ≤ (n : Int) := by omega
  have i2 : (m : Int) ≤ (c : Int) := by omega
  have i3 : (0 : Int) ≤ (m : Int) := by omega
  clear h1 h2 he hn hm'
  go_enter Tryd.func9, Tryd.ntmps9
  go_wp2_with (go_at_call 14; refine (Equal_c _ _ _ _ _ HT1.out HT2.out).mono ?_; rintro e w' ⟨rfl, rfl⟩)
  go_ret
  simp

/-- Noughts. -/
def Zs (w : World) (ad : Addr) (n : Nat) : Prop := ∀ j, j < n → w.cell? (ad.add j) = some (.int .u8 0)

set_option maxRecDepth 100000 in
theorem trimRight_c (w : World) (ad : Addr) (n c : Nat) (hz : Zs w ad n) (hc : n ≤ c) (hn : n ≤ 4611686018427387904) :
    Calls Tryd.prog 27 #[.slice (some ad) n c, .int .u8 0] w fun e w' => e = .returned (.slice (some ad) 0 c) ∧ w' = w := by
  have HZ := Lib.hid hz
  clear hz
  go_enter Tryd.func27, Tryd.ntmps27
  go_wp2
  go_loop [0] (fun v => ∃ k : Nat, k ≤ n ∧ v = .slice (some ad) k c) (fun v => match v with | .slice _ k _ => k | _ => 0)
  case atStart => exact ⟨n, Nat.le_refl _, rfl⟩
  case round =>
    obtain ⟨k, hk, rfl⟩ := hrel
    cases k with
    | zero =>
      go_wp2
      go_ret
      exact ⟨rfl, rfl⟩
    | succ j =>
      have e1 : ((j + 1 : Nat) : Int) - 1 = (j : Int) := by omega
      have c1 := HZ.out j (by omega)
      have i1 : (0 : Int) < ((j + 1 : Nat) : Int) := by omega
      have i2 : (j : Int) < ((j + 1 : Nat) : Int) := by omega
      have i3 : (j : Int) ≤ (c : Int) := by omega
      have i4 : (0 : Int) ≤ (j : Int) := by omega
      go_wp2
      exact ⟨⟨j, by omega, rfl⟩, Nat.lt_succ_self j⟩

set_option maxRecDepth 100000 in
theorem trimLeft_c (w : World) (ad : Addr) (c : Nat) :
    Calls Tryd.prog 26 #[.slice (some ad) 0 c, .int .u8 0] w fun e w' => e = .returned (.slice none 0 0) ∧ w' = w := by
  go_enter Tryd.func26, Tryd.ntmps26
  go_wp2
  go_loop [0] (fun v => v = .slice (some ad) 0 c) (fun _ => 0)
  case atStart => rfl
  case round =>
    subst hrel
    go_wp2
    go_ret
    exact ⟨rfl, rfl⟩

set_option maxRecDepth 100000 in
theorem Trim_c (w : World) (ad : Addr) (n c : Nat) (hz : Zs w ad n) (hc : n ≤ c) (hn : n ≤ 4611686018427387904) :
    Calls Tryd.prog 12 #[.slice (some ad) n c, .string { data := #[0] }] w fun e w' => e = .returned (.slice none 0 0) ∧ ∃ m, w' = w.drewN m := by
  have HZ := Lib.hid hz
  clear hz
  by_cases h0 : n = 0
  · subst h0
    go_enter Tryd.func12, Tryd.ntmps12
    go_wp2
    go_ret
    exact ⟨rfl, 0, rfl⟩
  · have i0 : ¬ ((n : Int) = 0) := by omega
    have HR : Hid (∀ m : Nat, Calls Tryd.prog 27 #[.slice (some ad) n c, .int .u8 0] (w.drewN m) fun e w' => e = .returned (.slice (some ad) 0 c) ∧ w' = w.drewN m) := fun m => trimRight_c (w.drewN m) ad n c HZ.out hc hn
    have HL : Hid (∀ m : Nat, Calls Tryd.prog 26 #[.slice (some ad) 0 c, .int .u8 0] (w.drewN m) fun e w' => e = .returned (.slice none 0 0) ∧ w' = w.drewN m) := fun m => trimLeft_c (w.drewN m) ad c
    go_enter Tryd.func12, Tryd.ntmps12
    go_wp2
    go_quiet ((first | (go_at_call 27; exact Calls.quiet_of_same (HR.out _)) | (go_at_call 26; exact Calls.quiet_of_same (HL.out _))))
    go_wp2
    go_ret
    exact ⟨rfl, _, rfl⟩
end Go.Proofs.YtmkpcdcdhheokaaDoor
