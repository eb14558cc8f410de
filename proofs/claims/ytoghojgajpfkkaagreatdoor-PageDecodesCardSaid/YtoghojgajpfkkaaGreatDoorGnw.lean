/-
  PageGens: the walk.
-/
import Derived.Test.YtoghojgajpfkkaaGreatDoorBak
import Derived.Test.YtoghojgajpfkkaaGreatDoorGb
set_option linter.unusedVariables false
namespace Go.Proofs.YtoghojgajpfkkaaGreatDoor
open Go.RowKit

section
variable (hal : ∀ W, Gens W → Calls Tryz.prog 5 #[] W (Told W (.bool true))) (w : World) (g h : Int) (f : Bool) (A B : Option Addr) (n c m d : Nat) (y : Nd) (hG : Gens w)
include hal hG
end
/-- What Encode answers, told by whether the node may be. -/
theorem Encode_y (w : World) (g : Int) (A B : Option Addr) (n c m d : Nat) (f : Bool) (x : Nd) (hN : Nod w x f (.slice A n c) (.slice B m d)) (hG : Gens w) (hn : n ≤ 1000) (hm : m ≤ 1000) (h : RightN g x ∧ anyU x.its = false) :
    Calls Tryz.prog 10 #[.int .i64 g, .agg #[.bool f, .slice A n c, .slice B m d]] w (GaveBE w (pageB g x) 0) :=
  (Encode_c w g A B n c m d f x hN hG hn hm).mono fun e w' ⟨b, hb, h1⟩ => by
    obtain rfl := hb.2 h
    rw [if_pos rfl, if_pos rfl] at h1
    exact h1
end Go.Proofs.YtoghojgajpfkkaaGreatDoor
