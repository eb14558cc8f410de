/-
  Of, Same of the program; Same of the document.
-/
import Derived.Test.YtnjhpjpeeehagaaCmp
import Derived.Test.YtnjhpjpeeehagaaItm
set_option linter.unusedVariables false
namespace Go.Proofs.Ytnjhpjpeeehagaa
open Go.RowKit

/-- A slice value of the call's own (from block b on) that holds these bytes. -/
def New (w : World) (b : Nat) (v : Value) (xs : Bytes) : Prop := ∃ A c, v = .slice A xs.length c ∧ Txt w A xs.length xs ∧ (A = none → c = 0) ∧ xs.length ≤ c ∧ c ≤ 9223372036854775807 ∧ ∀ ad, A = some ad → b ≤ ad.block ∧ ad.block < w.heap.size
theorem New.src {w : World} {b : Nat} {v : Value} {xs : Bytes} (h : New w b v xs) : Src w v xs := by
  obtain ⟨A, c, h1, h2, h3, h4, h5, _⟩ := h
  exact ⟨A, c, h1, h2, h3, h4, h5⟩
theorem New.keep {w w' : World} {F : Nat → Prop} {b : Nat} {v : Value} {xs : Bytes} (h : New w b v xs) (ho : Only F w w') (hF : ∀ k, b ≤ k → k < w.heap.size → ¬ F k) : New w' b v xs := by
  obtain ⟨A, c, h1, h2, h3, h4, h5, h6⟩ := h
  exact ⟨A, c, h1, h2.only ho (fun ad _ e => hF ad.block (h6 ad e).1 (h6 ad e).2), h3, h4, h5, fun ad e => ⟨(h6 ad e).1, Nat.lt_of_lt_of_le (h6 ad e).2 ho.size⟩⟩
theorem New.later {w w' : World} {b : Nat} {v : Value} {xs : Bytes} (h : New w b v xs) (ho : Only (w.heap.size ≤ ·) w w') : New w' b v xs := h.keep ho fun k _ h => Nat.not_le.2 h
theorem New.mono {w : World} {b b' : Nat} {v : Value} {xs : Bytes} (h : New w b v xs) (hb : b' ≤ b) : New w b' v xs := by
  obtain ⟨A, c, h1, h2, h3, h4, h5, h6⟩ := h
  exact ⟨A, c, h1, h2, h3, h4, h5, fun ad e => ⟨Nat.le_trans hb (h6 ad e).1, (h6 ad e).2⟩⟩
theorem New.own {w : World} {b n : Nat} {v : Value} {xs : Bytes} (h : w.ownsRow b 5 1 v n (cb xs)) : New w b v xs := by
  obtain ⟨A, c, h1, h2, h3, h4, h5, h6⟩ := txt_of_own h
  obtain rfl : xs.length = n := h2.1
  exact ⟨A, c, h1, h2, fun e => (h3 e).2, h4, by simp only [maxLen] at h5; omega, h6⟩

theorem New.form {w : World} {b n : Nat} {v : Value} {xs : Bytes} (h : w.ownsRow b 5 1 v n (cb xs)) : ∃ A c, v = .slice A xs.length c ∧ New w b (.slice A xs.length c) xs := by
  obtain ⟨A, c, h1, h2⟩ := New.own h
  exact ⟨A, c, h1, A, c, rfl, h2⟩

end Go.Proofs.Ytnjhpjpeeehagaa
