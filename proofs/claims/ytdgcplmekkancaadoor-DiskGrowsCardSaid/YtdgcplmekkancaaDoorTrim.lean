/-
  bytes.HasPrefix; bytes.Trim of noughts.
-/
import Derived.Test.YtdgcplmekkancaaDoorAliv
import Derived.Deep.QuietTactic
import Derived.BigQuiet
set_option linter.unusedVariables false
namespace Go.Proofs.YtdgcplmekkancaaDoor
open Go.RowKit

theorem Txt.take {w : World} {ad : Addr} {n : Nat} {xs : Bytes} (h : Txt w (some ad) n xs) (a : Nat) (ha : a ≤ n) : Txt w (some ad) a (xs.take a) := by
  refine ⟨by rw [List.length_take, h.1]; omega, fun h0 => ?_⟩
  obtain ⟨ad', e, hc⟩ := h.2 (by omega)
  cases e
  refine ⟨ad, rfl, fun j u hu => hc j u ?_⟩
  simp only [cb, List.map_take, List.getElem?_take] at hu
  split at hu
  · exact hu
  · cases hu

set_option maxRecDepth 100000 in
theorem HasPrefix_c (w : World) (ad : Addr) (n c : Nat) (xs : Bytes) (A : Option Addr) (m k : Nat) (ys : Bytes) (h1 : Txt w (some ad) n xs) (h2 : Txt w A m ys) (hm : m ≤ n) (hc : n ≤ c) (he : xs.take m = ys) :
    Calls Tryd.prog 11 #[.slice (some ad) n c, .slice A m k] w fun e w' => e = .returned (.bool true) ∧ w = w' := by
  have HT1 := Lib.hid (h1.take m hm)
  have HT2 := Lib.hid h2
  have HE := Lib.hid he
  have i1 : (m : Int) ≤ (n : Int) := by omega
  have i2 : (m : Int) ≤ (c : Int) := by omega
  have i3 : (0 : Int) ≤ (m : Int) := by omega
  clear h1 h2 he
  go_enter Tryd.func11, Tryd.ntmps11
  go_wp2_with (go_at_call 25; refine (Equal_c _ _ _ _ _ _ _ _ _ HT1.out HT2.out).mono ?_; rintro e w' ⟨rfl, rfl⟩; rw [HE.out])
  go_ret
  simp

/-- Noughts. -/
def Zs (w : World) (ad : Addr) (n : Nat) : Prop := ∀ j, j < n → w.cell? (ad.add j) = some (.int .u8 0)

set_option maxRecDepth 100000 in
theorem trimRight_c (w : World) (ad : Addr) (n c : Nat) (hz : Zs w ad n) (hc : n ≤ c) (hn : n ≤ 4611686018427387904) :
    Calls Tryd.prog 27 #[.slice (some ad) n c, .int .u8 0] w fun e w' => e = .returned (.slice (some ad) 0 c) ∧ w' = w := by
  have HZ := Lib.hid hz
  clear hz
  go_enter Tryd.func27, Tryd.ntmps27
  go_wp2
  go_loop [0] (fun v => ∃ k : Nat, k ≤ n ∧ v = .slice (some ad) k c) (fun v => match v with | .slice _ k _ => k | _ => 0)
  case atStart => exact ⟨n, Nat.le_refl _, rfl⟩
  case round =>
    obtain ⟨k, hk, rfl⟩ := hrel
    cases k with
    | zero =>
      go_wp2
      go_ret
      exact ⟨rfl, rfl⟩
    | succ j =>
      have e1 : ((j + 1 : Nat) : Int) - 1 = (j : Int) := by omega
      have c1 := HZ.out j (by omega)
      have i1 : (0 : Int) < ((j + 1 : Nat) : Int) := by omega
      have i2 : (j : Int) < ((j + 1 : Nat) : Int) := by omega
      have i3 : (j : Int) ≤ (c : Int) := by omega
      have i4 : (0 : Int) ≤ (j : Int) := by omega
      go_wp2
      exact ⟨⟨j, by omega, rfl⟩, Nat.lt_succ_self j⟩

set_option maxRecDepth 100000 in
theorem trimLeft_c (w : World) (ad : Addr) (c : Nat) :
    Calls Tryd.prog 26 #[.slice (some ad) 0 c, .int .u8 0] w fun e w' => e = .returned (.slice none 0 0) ∧ w' = w := by
  go_enter Tryd.func26, Tryd.ntmps26
  go_wp2
  go_loop [0] (fun v => v = .slice (some ad) 0 c) (fun _ => 0)
  case atStart => rfl
  case round =>
    subst hrel
    go_wp2
    go_ret
    exact ⟨rfl, rfl⟩

set_option maxRecDepth 100000 in
theorem Trim_c (w : World) (ad : Addr) (n c : Nat) (hz : Zs w ad n) (hc : n ≤ c) (hn : n ≤ 4611686018427387904) :
    Calls Tryd.prog 12 #[.slice (some ad) n c, .string { data := #[0] }] w fun e w' => e = .returned (.slice none 0 0) ∧ ∃ m, w' = w.drewN m := by
  have HZ := Lib.hid hz
  clear hz
  by_cases h0 : n = 0
  · subst h0
    go_enter Tryd.func12, Tryd.ntmps12
    go_wp2
    go_ret
    exact ⟨rfl, 0, rfl⟩
  · have i0 : ¬ ((n : Int) = 0) := by omega
    have HR : Hid (∀ m : Nat, Calls Tryd.prog 27 #[.slice (some ad) n c, .int .u8 0] (w.drewN m) fun e w' => e = .returned (.slice (some ad) 0 c) ∧ w' = w.drewN m) := fun m => trimRight_c (w.drewN m) ad n c HZ.out hc hn
    have HL : Hid (∀ m : Nat, Calls Tryd.prog 26 #[.slice (some ad) 0 c, .int .u8 0] (w.drewN m) fun e w' => e = .returned (.slice none 0 0) ∧ w' = w.drewN m) := fun m => trimLeft_c (w.drewN m) ad c
    go_enter Tryd.func12, Tryd.ntmps12
    go_wp2
    go_quiet ((first | (go_at_call 27; exact Calls.quiet_of_same (HR.out _)) | (go_at_call 26; exact Calls.quiet_of_same (HL.out _))))
    go_wp2
    go_ret
    exact ⟨rfl, _, rfl⟩
end Go.Proofs.YtdgcplmekkancaaDoor
