/-
  Metas: small functions.
-/
import Derived.Test.YtopaponemjaenaaDoorGm
import Derived.Test.YtopaponemjaenaaDoorGe
set_option linter.unusedVariables false
namespace Go.Proofs.YtopaponemjaenaaDoor
open Go.RowKit

theorem Blk.eight {w : World} {q : Nat} {ty : TypeId} {a b c d e f g h : Value} (H : Blk w q ty [a, b, c, d, e, f, g, h]) : w.cell? ⟨q, 0, none⟩ = some a ∧ w.cell? ⟨q, 1, none⟩ = some b ∧ w.cell? ⟨q, 2, none⟩ = some c ∧ w.cell? ⟨q, 3, none⟩ = some d ∧ w.cell? ⟨q, 4, none⟩ = some e ∧ w.cell? ⟨q, 5, none⟩ = some f ∧ w.cell? ⟨q, 6, none⟩ = some g ∧ w.cell? ⟨q, 7, none⟩ = some h := ⟨H.cell 0, H.cell 1, H.cell 2, H.cell 3, H.cell 4, H.cell 5, H.cell 6, H.cell 7⟩
/-- Is it a page that a meta may name? -/
def iP (p q : Int) : Bool := decide (2 ≤ q ∧ q < p)
section
variable (w : World) (g ph t x r p l : Int) (A : Option Addr) (n c : Nat)
theorem MisPage_c (q : Int) : Calls Tryd.prog 58 #[.agg #[.int .i64 g, .int .i64 ph, .int .i64 t, .int .i64 x, .int .i64 r, .int .i64 p, .int .i64 l, .slice A n c], .int .i64 q] w (Told w (.bool (iP p q))) := by
  by_cases h : 2 ≤ q
  · by_cases h2 : q < p
    · rw [show iP p q = true from decide_eq_true ⟨h, h2⟩]
      go_enter Tryd.func58, Tryd.ntmps58
      go_wp2
      go_ret
      exact ⟨rfl, (Only.refl _ w).alloc (fun _ h => h) _⟩
    · rw [show iP p q = false from decide_eq_false fun e => h2 e.2]
      go_enter Tryd.func58, Tryd.ntmps58
      go_wp2
      go_ret
      exact ⟨rfl, (Only.refl _ w).alloc (fun _ h => h) _⟩
  · rw [show iP p q = false from decide_eq_false fun e => h e.1]
    go_enter Tryd.func58, Tryd.ntmps58
    go_wp2
    go_ret
    exact ⟨rfl, (Only.refl _ w).alloc (fun _ h => h) _⟩
theorem Mwide_c (hG : Gens w) : Calls Tryd.prog 71 #[.int .i64 g] w (Told w (.int .i64 (tr g 4 8 8))) := by
  have HC := Lib.hid (IdWidth_c w g hG)
  clear hG
  go_enter Tryd.func71, Tryd.ntmps71
  go_wp2_with (go_at_call 83; (with_reducible refine HC.out.mono ?_); rintro e w1 ⟨rfl, ho⟩; have HO := Lib.hid ho; clear ho)
  go_ret
  exact ⟨rfl, HO.out⟩
theorem MSlot_c : Calls Tryd.prog 33 #[.int .i64 x] w fun e w' => e = .returned (.int .i64 (bits .and .i64 x 1)) ∧ w = w' := by
  go_enter Tryd.func33, Tryd.ntmps33
  go_wp2
  go_ret
  exact ⟨rfl, rfl⟩
/-- The seven numbers' addresses. -/
def sevenAt (b : Nat) : List Value := [.pointer (some ⟨b, 0, none⟩), .pointer (some ⟨b, 1, none⟩), .pointer (some ⟨b, 2, none⟩), .pointer (some ⟨b, 3, none⟩), .pointer (some ⟨b, 4, none⟩), .pointer (some ⟨b, 5, none⟩), .pointer (some ⟨b, 6, none⟩)]
end
end Go.Proofs.YtopaponemjaenaaDoor
