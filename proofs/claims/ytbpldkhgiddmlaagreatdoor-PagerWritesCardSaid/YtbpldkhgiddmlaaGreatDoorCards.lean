/-
  DERIVED. GIVEN WITH THE SEED: THE CARDS: each row of YtbpldkhgiddmlaaGreatDoorRows.lean that lists a variable, with what it lists TIED to the program's text (the seventh form; the later family's looks); each row that meets fmt, with fmt's text TOLD by the authors' own Lean function (tested against real Go, not proved from fmt's source: count such statements apart). THE CARD IS WHAT COUNTS. Prove the row's statement (the work); the ties are given (YtbpldkhgiddmlaaGreatDoorTie.lean); close each card by the builder's one call (the guide's Derived/Test/ToyasCard.lean, 'card_holds'). Laid BY PROGRAM, IN A SANDBOX (cutbox-door.mjs). By AI agents, Wed Nov 11 2026. No macro, syntax, notation, axiom, sorry.
-/
import Derived.Test.YtbpldkhgiddmlaaGreatDoorRows
import GoSem.ClaimSeven
namespace Go.Proofs.YtbpldkhgiddmlaaGreatDoor
namespace Rows

/-- THE TIED CARD OF 'regaugelaw12.PagerWrites'. -/
def pagerWritesCard : Claim7 := { stood := { row := pagerWritesRow, standIns := [], harness := (true, "8ef9b3ffbb532293ad04da3100df0bd3666f4dd72d448f3f5b9aea87ff796f57"), looks := false }, kinds := [], alts := [], laidByText := true, laidKinds := [.data], laidTests := true, laidLooks := .later }
def PagerWritesCardSaid : Prop := Claim7.holds Tryz.pinned (.plain (OpenSpec.ofChange pagerWritesSpec)) pagerWritesCard

/-- THE TIED CARD OF 'regaugelaw12.PagerReads'. -/
def pagerReadsCard : Claim7 := { stood := { row := pagerReadsRow, standIns := [], harness := (true, "8ef9b3ffbb532293ad04da3100df0bd3666f4dd72d448f3f5b9aea87ff796f57"), looks := false }, kinds := [], alts := [], laidByText := true, laidKinds := [.data], laidTests := true, laidLooks := .later }
def PagerReadsCardSaid : Prop := Claim7.holds Tryz.pinned (.plain (OpenSpec.ofChange pagerReadsSpec)) pagerReadsCard

/-- THE SECOND FORM's CARD OF 'regaugelaw12.PagerWrites'. -/
def pagerWritesUptoCard : Claim7 := { stood := { row := pagerWritesUptoRow, standIns := [], harness := (true, "8ef9b3ffbb532293ad04da3100df0bd3666f4dd72d448f3f5b9aea87ff796f57"), looks := false }, kinds := [], alts := [], laidByText := true, laidKinds := [.data], laidTests := true, laidLooks := .later }
def PagerWritesUptoCardSaid : Prop := Claim7.holds Tryz.pinned (.plain (OpenSpec.upto pagerWritesSpec)) pagerWritesUptoCard

/-- THE SECOND FORM's CARD OF 'regaugelaw12.PagerReads'. -/
def pagerReadsUptoCard : Claim7 := { stood := { row := pagerReadsUptoRow, standIns := [], harness := (true, "8ef9b3ffbb532293ad04da3100df0bd3666f4dd72d448f3f5b9aea87ff796f57"), looks := false }, kinds := [], alts := [], laidByText := true, laidKinds := [.data], laidTests := true, laidLooks := .later }
def PagerReadsUptoCardSaid : Prop := Claim7.holds Tryz.pinned (.plain (OpenSpec.upto pagerReadsSpec)) pagerReadsUptoCard
end Rows
end Go.Proofs.YtbpldkhgiddmlaaGreatDoor
