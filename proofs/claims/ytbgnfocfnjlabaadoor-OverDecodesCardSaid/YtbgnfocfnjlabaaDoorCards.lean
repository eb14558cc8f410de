/-
  DERIVED. GIVEN WITH THE SEED: THE CARDS: each row of YtbgnfocfnjlabaaDoorRows.lean that lists a variable, with what it lists TIED to the program's text (the seventh form; the later family's looks); each row that meets fmt, with fmt's text TOLD by the authors' own Lean function (tested against real Go, not proved from fmt's source: count such statements apart). THE CARD IS WHAT COUNTS. Prove the row's statement (the work); the ties are given (YtbgnfocfnjlabaaDoorTie.lean); close each card by the builder's one call (the guide's Derived/Test/ToyasCard.lean, 'card_holds'). Laid BY PROGRAM, IN A SANDBOX (cutbox-door.mjs). By AI agents, Wed Nov 11 2026. No macro, syntax, notation, axiom, sorry.
-/
import Derived.Test.YtbgnfocfnjlabaaDoorRows
import GoSem.ClaimSeven
namespace Go.Proofs.YtbgnfocfnjlabaaDoor
namespace Rows

/-- THE TIED CARD OF 'regaugelaw08.OverMany'. -/
def overManyCard : Claim7 := { stood := { row := overManyRow, standIns := [], harness := (true, "9fede67cc3162be5b5a97fd30b941abdd4c71bf1e9b7312237f3bebb6a439f5f"), looks := false }, kinds := [], alts := [], laidByText := true, laidKinds := [.data], laidTests := true, laidLooks := .later }
def OverManyCardSaid : Prop := Claim7.holds Tryd.pinned (.plain (OpenSpec.ofChange overManySpec)) overManyCard

/-- THE TIED CARD OF 'regaugelaw08.OverDecodes'. -/
def overDecodesCard : Claim7 := { stood := { row := overDecodesRow, standIns := [], harness := (true, "9fede67cc3162be5b5a97fd30b941abdd4c71bf1e9b7312237f3bebb6a439f5f"), looks := false }, kinds := [], alts := [], laidByText := true, laidKinds := [.data], laidTests := true, laidLooks := .later }
def OverDecodesCardSaid : Prop := Claim7.holds Tryd.pinned (.plain (OpenSpec.ofChange overDecodesSpec)) overDecodesCard

/-- THE TIED CARD OF 'regaugelaw08.OverTorn'. -/
def overTornCard : Claim7 := { stood := { row := overTornRow, standIns := [], harness := (true, "9fede67cc3162be5b5a97fd30b941abdd4c71bf1e9b7312237f3bebb6a439f5f"), looks := false }, kinds := [], alts := [], laidByText := true, laidKinds := [.data], laidTests := true, laidLooks := .later }
def OverTornCardSaid : Prop := Claim7.holds Tryd.pinned (.plain (OpenSpec.ofChange overTornSpec)) overTornCard

/-- THE TIED CARD OF 'regaugelaw08.OverApart'. -/
def overApartCard : Claim7 := { stood := { row := overApartRow, standIns := [], harness := (true, "9fede67cc3162be5b5a97fd30b941abdd4c71bf1e9b7312237f3bebb6a439f5f"), looks := false }, kinds := [], alts := [], laidByText := true, laidKinds := [.data], laidTests := true, laidLooks := .later }
def OverApartCardSaid : Prop := Claim7.holds Tryd.pinned (.plain (OpenSpec.ofChange overApartSpec)) overApartCard

/-- THE SECOND FORM's CARD OF 'regaugelaw08.OverMany'. -/
def overManyUptoCard : Claim7 := { stood := { row := overManyUptoRow, standIns := [], harness := (true, "9fede67cc3162be5b5a97fd30b941abdd4c71bf1e9b7312237f3bebb6a439f5f"), looks := false }, kinds := [], alts := [], laidByText := true, laidKinds := [.data], laidTests := true, laidLooks := .later }
def OverManyUptoCardSaid : Prop := Claim7.holds Tryd.pinned (.plain (OpenSpec.upto overManySpec)) overManyUptoCard

/-- THE SECOND FORM's CARD OF 'regaugelaw08.OverDecodes'. -/
def overDecodesUptoCard : Claim7 := { stood := { row := overDecodesUptoRow, standIns := [], harness := (true, "9fede67cc3162be5b5a97fd30b941abdd4c71bf1e9b7312237f3bebb6a439f5f"), looks := false }, kinds := [], alts := [], laidByText := true, laidKinds := [.data], laidTests := true, laidLooks := .later }
def OverDecodesUptoCardSaid : Prop := Claim7.holds Tryd.pinned (.plain (OpenSpec.upto overDecodesSpec)) overDecodesUptoCard

/-- THE SECOND FORM's CARD OF 'regaugelaw08.OverTorn'. -/
def overTornUptoCard : Claim7 := { stood := { row := overTornUptoRow, standIns := [], harness := (true, "9fede67cc3162be5b5a97fd30b941abdd4c71bf1e9b7312237f3bebb6a439f5f"), looks := false }, kinds := [], alts := [], laidByText := true, laidKinds := [.data], laidTests := true, laidLooks := .later }
def OverTornUptoCardSaid : Prop := Claim7.holds Tryd.pinned (.plain (OpenSpec.upto overTornSpec)) overTornUptoCard

/-- THE SECOND FORM's CARD OF 'regaugelaw08.OverApart'. -/
def overApartUptoCard : Claim7 := { stood := { row := overApartUptoRow, standIns := [], harness := (true, "9fede67cc3162be5b5a97fd30b941abdd4c71bf1e9b7312237f3bebb6a439f5f"), looks := false }, kinds := [], alts := [], laidByText := true, laidKinds := [.data], laidTests := true, laidLooks := .later }
def OverApartUptoCardSaid : Prop := Claim7.holds Tryd.pinned (.plain (OpenSpec.upto overApartSpec)) overApartUptoCard
end Rows
end Go.Proofs.YtbgnfocfnjlabaaDoor
