/-
  DERIVED. GIVEN WITH THE SEED: THE CARDS: each row of YtoghojgajpfkkaaGreatDoorRows.lean that lists a variable, with what it lists TIED to the program's text (the seventh form; the later family's looks); each row that meets fmt, with fmt's text TOLD by the authors' own Lean function (tested against real Go, not proved from fmt's source: count such statements apart). THE CARD IS WHAT COUNTS. Prove the row's statement (the work); the ties are given (YtoghojgajpfkkaaGreatDoorTie.lean); close each card by the builder's one call (the guide's Derived/Test/ToyasCard.lean, 'card_holds'). Laid BY PROGRAM, IN A SANDBOX (cutbox-door.mjs). By AI agents, Wed Nov 11 2026. No macro, syntax, notation, axiom, sorry.
-/
import Derived.Test.YtoghojgajpfkkaaGreatDoorRows
import GoSem.ClaimSeven
namespace Go.Proofs.YtoghojgajpfkkaaGreatDoor
namespace Rows

/-- THE TIED CARD OF 'regaugelaw07.PageDecodes'. -/
def pageDecodesCard : Claim7 := { stood := { row := pageDecodesRow, standIns := [], harness := (true, "3b9dbf502d75fd9dd8db66857d8e05152b1dde55b672e57192301e604f65f144"), looks := false }, kinds := [], alts := [], laidByText := true, laidKinds := [.data], laidTests := true, laidLooks := .later }
def PageDecodesCardSaid : Prop := Claim7.holds Tryz.pinned (.plain (OpenSpec.ofChange pageDecodesSpec)) pageDecodesCard

/-- THE SECOND FORM's CARD OF 'regaugelaw07.PageDecodes'. -/
def pageDecodesUptoCard : Claim7 := { stood := { row := pageDecodesUptoRow, standIns := [], harness := (true, "3b9dbf502d75fd9dd8db66857d8e05152b1dde55b672e57192301e604f65f144"), looks := false }, kinds := [], alts := [], laidByText := true, laidKinds := [.data], laidTests := true, laidLooks := .later }
def PageDecodesUptoCardSaid : Prop := Claim7.holds Tryz.pinned (.plain (OpenSpec.upto pageDecodesSpec)) pageDecodesUptoCard
end Rows
end Go.Proofs.YtoghojgajpfkkaaGreatDoor
