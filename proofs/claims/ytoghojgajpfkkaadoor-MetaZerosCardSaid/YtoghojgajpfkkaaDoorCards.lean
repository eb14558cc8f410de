/-
  DERIVED. GIVEN WITH THE SEED: THE CARDS: each row of YtoghojgajpfkkaaDoorRows.lean that lists a variable, with what it lists TIED to the program's text (the seventh form; the later family's looks); each row that meets fmt, with fmt's text TOLD by the authors' own Lean function (tested against real Go, not proved from fmt's source: count such statements apart). THE CARD IS WHAT COUNTS. Prove the row's statement (the work); the ties are given (YtoghojgajpfkkaaDoorTie.lean); close each card by the builder's one call (the guide's Derived/Test/ToyasCard.lean, 'card_holds'). Laid BY PROGRAM, IN A SANDBOX (cutbox-door.mjs). By AI agents, Wed Nov 11 2026. No macro, syntax, notation, axiom, sorry.
-/
import Derived.Test.YtoghojgajpfkkaaDoorRows
import GoSem.ClaimSeven
namespace Go.Proofs.YtoghojgajpfkkaaDoor
namespace Rows

/-- THE TIED CARD OF 'regaugelaw08.OverMany'. -/
def overManyCard : Claim7 := { stood := { row := overManyRow, standIns := [], harness := (true, "50a4206cb8b126545cf32bb4c0e4a0566fbb19cb09548701e0989fafa9b43814"), looks := false }, kinds := [], alts := [], laidByText := true, laidKinds := [.data], laidTests := true, laidLooks := .later }
def OverManyCardSaid : Prop := Claim7.holds Tryd.pinned (.plain (OpenSpec.ofChange overManySpec)) overManyCard

/-- THE TIED CARD OF 'regaugelaw08.OverDecodes'. -/
def overDecodesCard : Claim7 := { stood := { row := overDecodesRow, standIns := [], harness := (true, "50a4206cb8b126545cf32bb4c0e4a0566fbb19cb09548701e0989fafa9b43814"), looks := false }, kinds := [], alts := [], laidByText := true, laidKinds := [.data], laidTests := true, laidLooks := .later }
def OverDecodesCardSaid : Prop := Claim7.holds Tryd.pinned (.plain (OpenSpec.ofChange overDecodesSpec)) overDecodesCard

/-- THE TIED CARD OF 'regaugelaw08.OverTorn'. -/
def overTornCard : Claim7 := { stood := { row := overTornRow, standIns := [], harness := (true, "50a4206cb8b126545cf32bb4c0e4a0566fbb19cb09548701e0989fafa9b43814"), looks := false }, kinds := [], alts := [], laidByText := true, laidKinds := [.data], laidTests := true, laidLooks := .later }
def OverTornCardSaid : Prop := Claim7.holds Tryd.pinned (.plain (OpenSpec.ofChange overTornSpec)) overTornCard

/-- THE TIED CARD OF 'regaugelaw08.OverApart'. -/
def overApartCard : Claim7 := { stood := { row := overApartRow, standIns := [], harness := (true, "50a4206cb8b126545cf32bb4c0e4a0566fbb19cb09548701e0989fafa9b43814"), looks := false }, kinds := [], alts := [], laidByText := true, laidKinds := [.data], laidTests := true, laidLooks := .later }
def OverApartCardSaid : Prop := Claim7.holds Tryd.pinned (.plain (OpenSpec.ofChange overApartSpec)) overApartCard

/-- THE TIED CARD OF 'regaugelaw09.MetaEncodes'. -/
def metaEncodesCard : Claim7 := { stood := { row := metaEncodesRow, standIns := [], harness := (true, "50a4206cb8b126545cf32bb4c0e4a0566fbb19cb09548701e0989fafa9b43814"), looks := false }, kinds := [], alts := [], laidByText := true, laidKinds := [.data], laidTests := true, laidLooks := .later }
def MetaEncodesCardSaid : Prop := Claim7.holds Tryd.pinned (.plain (OpenSpec.ofChange metaEncodesSpec)) metaEncodesCard

/-- THE TIED CARD OF 'regaugelaw09.MetaDecodes'. -/
def metaDecodesCard : Claim7 := { stood := { row := metaDecodesRow, standIns := [], harness := (true, "50a4206cb8b126545cf32bb4c0e4a0566fbb19cb09548701e0989fafa9b43814"), looks := false }, kinds := [], alts := [], laidByText := true, laidKinds := [.data], laidTests := true, laidLooks := .later }
def MetaDecodesCardSaid : Prop := Claim7.holds Tryd.pinned (.plain (OpenSpec.ofChange metaDecodesSpec)) metaDecodesCard

/-- THE TIED CARD OF 'regaugelaw09.MetaChooses'. -/
def metaChoosesCard : Claim7 := { stood := { row := metaChoosesRow, standIns := [], harness := (true, "50a4206cb8b126545cf32bb4c0e4a0566fbb19cb09548701e0989fafa9b43814"), looks := false }, kinds := [], alts := [], laidByText := true, laidKinds := [.data], laidTests := true, laidLooks := .later }
def MetaChoosesCardSaid : Prop := Claim7.holds Tryd.pinned (.plain (OpenSpec.ofChange metaChoosesSpec)) metaChoosesCard

/-- THE TIED CARD OF 'regaugelaw09.MetaSame'. -/
def metaSameCard : Claim7 := { stood := { row := metaSameRow, standIns := [], harness := (true, "50a4206cb8b126545cf32bb4c0e4a0566fbb19cb09548701e0989fafa9b43814"), looks := false }, kinds := [], alts := [], laidByText := true, laidKinds := [.data], laidTests := true, laidLooks := .later }
def MetaSameCardSaid : Prop := Claim7.holds Tryd.pinned (.plain (OpenSpec.ofChange metaSameSpec)) metaSameCard

/-- THE TIED CARD OF 'regaugelaw09.MetaZeros'. -/
def metaZerosCard : Claim7 := { stood := { row := metaZerosRow, standIns := [], harness := (true, "50a4206cb8b126545cf32bb4c0e4a0566fbb19cb09548701e0989fafa9b43814"), looks := false }, kinds := [], alts := [], laidByText := true, laidKinds := [.data], laidTests := true, laidLooks := .later }
def MetaZerosCardSaid : Prop := Claim7.holds Tryd.pinned (.plain (OpenSpec.ofChange metaZerosSpec)) metaZerosCard

/-- THE TIED CARD OF 'regaugelaw09.MetaNewer'. -/
def metaNewerCard : Claim7 := { stood := { row := metaNewerRow, standIns := [], harness := (true, "50a4206cb8b126545cf32bb4c0e4a0566fbb19cb09548701e0989fafa9b43814"), looks := false }, kinds := [], alts := [], laidByText := true, laidKinds := [.data], laidTests := true, laidLooks := .later }
def MetaNewerCardSaid : Prop := Claim7.holds Tryd.pinned (.plain (OpenSpec.ofChange metaNewerSpec)) metaNewerCard

/-- THE SECOND FORM's CARD OF 'regaugelaw08.OverMany'. -/
def overManyUptoCard : Claim7 := { stood := { row := overManyUptoRow, standIns := [], harness := (true, "50a4206cb8b126545cf32bb4c0e4a0566fbb19cb09548701e0989fafa9b43814"), looks := false }, kinds := [], alts := [], laidByText := true, laidKinds := [.data], laidTests := true, laidLooks := .later }
def OverManyUptoCardSaid : Prop := Claim7.holds Tryd.pinned (.plain (OpenSpec.upto overManySpec)) overManyUptoCard

/-- THE SECOND FORM's CARD OF 'regaugelaw08.OverDecodes'. -/
def overDecodesUptoCard : Claim7 := { stood := { row := overDecodesUptoRow, standIns := [], harness := (true, "50a4206cb8b126545cf32bb4c0e4a0566fbb19cb09548701e0989fafa9b43814"), looks := false }, kinds := [], alts := [], laidByText := true, laidKinds := [.data], laidTests := true, laidLooks := .later }
def OverDecodesUptoCardSaid : Prop := Claim7.holds Tryd.pinned (.plain (OpenSpec.upto overDecodesSpec)) overDecodesUptoCard

/-- THE SECOND FORM's CARD OF 'regaugelaw08.OverTorn'. -/
def overTornUptoCard : Claim7 := { stood := { row := overTornUptoRow, standIns := [], harness := (true, "50a4206cb8b126545cf32bb4c0e4a0566fbb19cb09548701e0989fafa9b43814"), looks := false }, kinds := [], alts := [], laidByText := true, laidKinds := [.data], laidTests := true, laidLooks := .later }
def OverTornUptoCardSaid : Prop := Claim7.holds Tryd.pinned (.plain (OpenSpec.upto overTornSpec)) overTornUptoCard

/-- THE SECOND FORM's CARD OF 'regaugelaw08.OverApart'. -/
def overApartUptoCard : Claim7 := { stood := { row := overApartUptoRow, standIns := [], harness := (true, "50a4206cb8b126545cf32bb4c0e4a0566fbb19cb09548701e0989fafa9b43814"), looks := false }, kinds := [], alts := [], laidByText := true, laidKinds := [.data], laidTests := true, laidLooks := .later }
def OverApartUptoCardSaid : Prop := Claim7.holds Tryd.pinned (.plain (OpenSpec.upto overApartSpec)) overApartUptoCard

/-- THE SECOND FORM's CARD OF 'regaugelaw09.MetaEncodes'. -/
def metaEncodesUptoCard : Claim7 := { stood := { row := metaEncodesUptoRow, standIns := [], harness := (true, "50a4206cb8b126545cf32bb4c0e4a0566fbb19cb09548701e0989fafa9b43814"), looks := false }, kinds := [], alts := [], laidByText := true, laidKinds := [.data], laidTests := true, laidLooks := .later }
def MetaEncodesUptoCardSaid : Prop := Claim7.holds Tryd.pinned (.plain (OpenSpec.upto metaEncodesSpec)) metaEncodesUptoCard

/-- THE SECOND FORM's CARD OF 'regaugelaw09.MetaDecodes'. -/
def metaDecodesUptoCard : Claim7 := { stood := { row := metaDecodesUptoRow, standIns := [], harness := (true, "50a4206cb8b126545cf32bb4c0e4a0566fbb19cb09548701e0989fafa9b43814"), looks := false }, kinds := [], alts := [], laidByText := true, laidKinds := [.data], laidTests := true, laidLooks := .later }
def MetaDecodesUptoCardSaid : Prop := Claim7.holds Tryd.pinned (.plain (OpenSpec.upto metaDecodesSpec)) metaDecodesUptoCard

/-- THE SECOND FORM's CARD OF 'regaugelaw09.MetaChooses'. -/
def metaChoosesUptoCard : Claim7 := { stood := { row := metaChoosesUptoRow, standIns := [], harness := (true, "50a4206cb8b126545cf32bb4c0e4a0566fbb19cb09548701e0989fafa9b43814"), looks := false }, kinds := [], alts := [], laidByText := true, laidKinds := [.data], laidTests := true, laidLooks := .later }
def MetaChoosesUptoCardSaid : Prop := Claim7.holds Tryd.pinned (.plain (OpenSpec.upto metaChoosesSpec)) metaChoosesUptoCard

/-- THE SECOND FORM's CARD OF 'regaugelaw09.MetaSame'. -/
def metaSameUptoCard : Claim7 := { stood := { row := metaSameUptoRow, standIns := [], harness := (true, "50a4206cb8b126545cf32bb4c0e4a0566fbb19cb09548701e0989fafa9b43814"), looks := false }, kinds := [], alts := [], laidByText := true, laidKinds := [.data], laidTests := true, laidLooks := .later }
def MetaSameUptoCardSaid : Prop := Claim7.holds Tryd.pinned (.plain (OpenSpec.upto metaSameSpec)) metaSameUptoCard

/-- THE SECOND FORM's CARD OF 'regaugelaw09.MetaZeros'. -/
def metaZerosUptoCard : Claim7 := { stood := { row := metaZerosUptoRow, standIns := [], harness := (true, "50a4206cb8b126545cf32bb4c0e4a0566fbb19cb09548701e0989fafa9b43814"), looks := false }, kinds := [], alts := [], laidByText := true, laidKinds := [.data], laidTests := true, laidLooks := .later }
def MetaZerosUptoCardSaid : Prop := Claim7.holds Tryd.pinned (.plain (OpenSpec.upto metaZerosSpec)) metaZerosUptoCard

/-- THE SECOND FORM's CARD OF 'regaugelaw09.MetaNewer'. -/
def metaNewerUptoCard : Claim7 := { stood := { row := metaNewerUptoRow, standIns := [], harness := (true, "50a4206cb8b126545cf32bb4c0e4a0566fbb19cb09548701e0989fafa9b43814"), looks := false }, kinds := [], alts := [], laidByText := true, laidKinds := [.data], laidTests := true, laidLooks := .later }
def MetaNewerUptoCardSaid : Prop := Claim7.holds Tryd.pinned (.plain (OpenSpec.upto metaNewerSpec)) metaNewerUptoCard
end Rows
end Go.Proofs.YtoghojgajpfkkaaDoor
