/-
  The document's reading of a page's body.
-/
import Derived.Test.YtoghojgajpfkkaaGreatDoorRfk
set_option linter.unusedVariables false
namespace Go.Proofs.YtoghojgajpfkkaaGreatDoor
open Go.RowKit

theorem rform_c (w : World) (v : Value) (b : Bytes) (g xx : Int) (k q cnt : Nat) (hk : k = 76 ∨ k = 66) (hq : tr g 4 8 8 = (q : Int)) (hq4 : 4 ≤ q) (hq8 : q ≤ 8) (hs : Src w v b) (hb : b.length ≤ 256) (hcnt : cnt ≤ 65535) :
    Calls Tryz.prog 21 #[.agg #[.int .i64 (k : Nat), .int .i64 g, .int .i64 (cnt : Nat), .int .i64 xx], v] w (GaveFm w (FormOk g q (decide (k = 76)) cnt xx b)) := by
  have hs2 := hs
  obtain ⟨A, c, rfl, _⟩ := hs2
  rcases hk with rfl | rfl
  · exact rform_L w A _ c b g xx q cnt hq hq4 hq8 hs hb hcnt
  · exact rform_K w A _ c b g xx q cnt hq hq4 hq8 hs hb hcnt
end Go.Proofs.YtoghojgajpfkkaaGreatDoor
