/-
  DERIVED. GIVEN WITH THE SEED: THE CARDS: each row of YtmkpcdcdhheokaaDoorRows.lean that lists a variable, with what it lists TIED to the program's text (the seventh form; the later family's looks); each row that meets fmt, with fmt's text TOLD by the authors' own Lean function (tested against real Go, not proved from fmt's source: count such statements apart). THE CARD IS WHAT COUNTS. Prove the row's statement (the work); the ties are given (YtmkpcdcdhheokaaDoorTie.lean); close each card by the builder's one call (the guide's Derived/Test/ToyasCard.lean, 'card_holds'). Laid BY PROGRAM, IN A SANDBOX (cutbox-door.mjs). By AI agents, Wed Nov 11 2026. No macro, syntax, notation, axiom, sorry.
-/
import Derived.Test.YtmkpcdcdhheokaaDoorRows
import GoSem.ClaimSeven
namespace Go.Proofs.YtmkpcdcdhheokaaDoor
namespace Rows

/-- THE TIED CARD OF 'regaugelaw03.FieldWide'. -/
def fieldWideCard : Claim7 := { stood := { row := fieldWideRow, standIns := [], harness := (true, "9079f62dd5572315520e386175d8f62f7076ba8498d50790dca5aa25fa86614a"), looks := false }, kinds := [], alts := [], laidByText := true, laidKinds := [.data, .pinned], laidTests := true, laidLooks := .later }
def FieldWideCardSaid : Prop := Claim7.holds Tryd.pinned (.plain (OpenSpec.ofChange fieldWideSpec)) fieldWideCard

/-- THE SECOND FORM's CARD OF 'regaugelaw03.FieldWide'. -/
def fieldWideUptoCard : Claim7 := { stood := { row := fieldWideUptoRow, standIns := [], harness := (true, "9079f62dd5572315520e386175d8f62f7076ba8498d50790dca5aa25fa86614a"), looks := false }, kinds := [], alts := [], laidByText := true, laidKinds := [.data, .pinned], laidTests := true, laidLooks := .later }
def FieldWideUptoCardSaid : Prop := Claim7.holds Tryd.pinned (.plain (OpenSpec.upto fieldWideSpec)) fieldWideUptoCard
end Rows
end Go.Proofs.YtmkpcdcdhheokaaDoor
