/-
  DERIVED. GIVEN WITH THE SEED: THE CARDS: each row of YtjbbljnfgpggkaaDoorRows.lean that lists a variable, with what it lists TIED to the program's text (the seventh form; the later family's looks); each row that meets fmt, with fmt's text TOLD by the authors' own Lean function (tested against real Go, not proved from fmt's source: count such statements apart). THE CARD IS WHAT COUNTS. Prove the row's statement (the work); the ties are given (YtjbbljnfgpggkaaDoorTie.lean); close each card by the builder's one call (the guide's Derived/Test/ToyasCard.lean, 'card_holds'). Laid BY PROGRAM, IN A SANDBOX (cutbox-door.mjs). By AI agents, Wed Nov 11 2026. No macro, syntax, notation, axiom, sorry.
-/
import Derived.Test.YtjbbljnfgpggkaaDoorRows
import GoSem.ClaimSeven
namespace Go.Proofs.YtjbbljnfgpggkaaDoor
namespace Rows

/-- THE TIED CARD OF 'regaugelaw06.NodeParts'. -/
def nodePartsCard : Claim7 := { stood := { row := nodePartsRow, standIns := [], harness := (true, "7b4ed0ababf5134ffb26ae82c8d3ce30bb1782bc5ec1901f097dd56f9b07a7a7"), looks := false }, kinds := [], alts := [], laidByText := true, laidKinds := [.data], laidTests := true, laidLooks := .later }
def NodePartsCardSaid : Prop := Claim7.holds Tryd.pinned (.plain (OpenSpec.ofChange nodePartsSpec)) nodePartsCard

/-- THE TIED CARD OF 'regaugelaw06.NodeThree'. -/
def nodeThreeCard : Claim7 := { stood := { row := nodeThreeRow, standIns := [], harness := (true, "7b4ed0ababf5134ffb26ae82c8d3ce30bb1782bc5ec1901f097dd56f9b07a7a7"), looks := false }, kinds := [], alts := [], laidByText := true, laidKinds := [.data], laidTests := true, laidLooks := .later }
def NodeThreeCardSaid : Prop := Claim7.holds Tryd.pinned (.plain (OpenSpec.ofChange nodeThreeSpec)) nodeThreeCard

/-- THE TIED CARD OF 'regaugelaw06.NodeEven'. -/
def nodeEvenCard : Claim7 := { stood := { row := nodeEvenRow, standIns := [], harness := (true, "7b4ed0ababf5134ffb26ae82c8d3ce30bb1782bc5ec1901f097dd56f9b07a7a7"), looks := false }, kinds := [], alts := [], laidByText := true, laidKinds := [.data], laidTests := true, laidLooks := .later }
def NodeEvenCardSaid : Prop := Claim7.holds Tryd.pinned (.plain (OpenSpec.ofChange nodeEvenSpec)) nodeEvenCard

/-- THE SECOND FORM's CARD OF 'regaugelaw06.NodeParts'. -/
def nodePartsUptoCard : Claim7 := { stood := { row := nodePartsUptoRow, standIns := [], harness := (true, "7b4ed0ababf5134ffb26ae82c8d3ce30bb1782bc5ec1901f097dd56f9b07a7a7"), looks := false }, kinds := [], alts := [], laidByText := true, laidKinds := [.data], laidTests := true, laidLooks := .later }
def NodePartsUptoCardSaid : Prop := Claim7.holds Tryd.pinned (.plain (OpenSpec.upto nodePartsSpec)) nodePartsUptoCard

/-- THE SECOND FORM's CARD OF 'regaugelaw06.NodeThree'. -/
def nodeThreeUptoCard : Claim7 := { stood := { row := nodeThreeUptoRow, standIns := [], harness := (true, "7b4ed0ababf5134ffb26ae82c8d3ce30bb1782bc5ec1901f097dd56f9b07a7a7"), looks := false }, kinds := [], alts := [], laidByText := true, laidKinds := [.data], laidTests := true, laidLooks := .later }
def NodeThreeUptoCardSaid : Prop := Claim7.holds Tryd.pinned (.plain (OpenSpec.upto nodeThreeSpec)) nodeThreeUptoCard

/-- THE SECOND FORM's CARD OF 'regaugelaw06.NodeEven'. -/
def nodeEvenUptoCard : Claim7 := { stood := { row := nodeEvenUptoRow, standIns := [], harness := (true, "7b4ed0ababf5134ffb26ae82c8d3ce30bb1782bc5ec1901f097dd56f9b07a7a7"), looks := false }, kinds := [], alts := [], laidByText := true, laidKinds := [.data], laidTests := true, laidLooks := .later }
def NodeEvenUptoCardSaid : Prop := Claim7.holds Tryd.pinned (.plain (OpenSpec.upto nodeEvenSpec)) nodeEvenUptoCard
end Rows
end Go.Proofs.YtjbbljnfgpggkaaDoor
