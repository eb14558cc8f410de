/-
  DERIVED. GIVEN WITH THE SEED: THE CARDS: each row of YtopaponemjaenaaDoorRows.lean that lists a variable, with what it lists TIED to the program's text (the seventh form; the later family's looks); each row that meets fmt, with fmt's text TOLD by the authors' own Lean function (tested against real Go, not proved from fmt's source: count such statements apart). THE CARD IS WHAT COUNTS. Prove the row's statement (the work); the ties are given (YtopaponemjaenaaDoorTie.lean); close each card by the builder's one call (the guide's Derived/Test/ToyasCard.lean, 'card_holds'). Laid BY PROGRAM, IN A SANDBOX (cutbox-door.mjs). By AI agents, Wed Nov 11 2026. No macro, syntax, notation, axiom, sorry.
-/
import Derived.Test.YtopaponemjaenaaDoorRows
import GoSem.ClaimSeven
namespace Go.Proofs.YtopaponemjaenaaDoor
namespace Rows

/-- THE TIED CARD OF 'regaugelaw12.PagerFull'. -/
def pagerFullCard : Claim7 := { stood := { row := pagerFullRow, standIns := [], harness := (true, "a2d5e9f5c850459fe6dbd3b00e0c78e965e118e7375704891f523193dc5d070a"), looks := false }, kinds := [], alts := [], laidByText := true, laidKinds := [.data], laidTests := true, laidLooks := .later }
def PagerFullCardSaid : Prop := Claim7.holds Tryd.pinned (.plain (OpenSpec.ofChange pagerFullSpec)) pagerFullCard

/-- THE TIED CARD OF 'regaugelaw12.PagerRight'. -/
def pagerRightCard : Claim7 := { stood := { row := pagerRightRow, standIns := [], harness := (true, "a2d5e9f5c850459fe6dbd3b00e0c78e965e118e7375704891f523193dc5d070a"), looks := false }, kinds := [], alts := [], laidByText := true, laidKinds := [.data], laidTests := true, laidLooks := .later }
def PagerRightCardSaid : Prop := Claim7.holds Tryd.pinned (.plain (OpenSpec.ofChange pagerRightSpec)) pagerRightCard

/-- THE TIED CARD OF 'regaugelaw12.PagerTwo'. -/
def pagerTwoCard : Claim7 := { stood := { row := pagerTwoRow, standIns := [], harness := (true, "a2d5e9f5c850459fe6dbd3b00e0c78e965e118e7375704891f523193dc5d070a"), looks := false }, kinds := [], alts := [], laidByText := true, laidKinds := [.data], laidTests := true, laidLooks := .later }
def PagerTwoCardSaid : Prop := Claim7.holds Tryd.pinned (.plain (OpenSpec.ofChange pagerTwoSpec)) pagerTwoCard

/-- THE TIED CARD OF 'regaugelaw12.PagerAgain'. -/
def pagerAgainCard : Claim7 := { stood := { row := pagerAgainRow, standIns := [], harness := (true, "a2d5e9f5c850459fe6dbd3b00e0c78e965e118e7375704891f523193dc5d070a"), looks := false }, kinds := [], alts := [], laidByText := true, laidKinds := [.data], laidTests := true, laidLooks := .later }
def PagerAgainCardSaid : Prop := Claim7.holds Tryd.pinned (.plain (OpenSpec.ofChange pagerAgainSpec)) pagerAgainCard

/-- THE SECOND FORM's CARD OF 'regaugelaw12.PagerFull'. -/
def pagerFullUptoCard : Claim7 := { stood := { row := pagerFullUptoRow, standIns := [], harness := (true, "a2d5e9f5c850459fe6dbd3b00e0c78e965e118e7375704891f523193dc5d070a"), looks := false }, kinds := [], alts := [], laidByText := true, laidKinds := [.data], laidTests := true, laidLooks := .later }
def PagerFullUptoCardSaid : Prop := Claim7.holds Tryd.pinned (.plain (OpenSpec.upto pagerFullSpec)) pagerFullUptoCard

/-- THE SECOND FORM's CARD OF 'regaugelaw12.PagerRight'. -/
def pagerRightUptoCard : Claim7 := { stood := { row := pagerRightUptoRow, standIns := [], harness := (true, "a2d5e9f5c850459fe6dbd3b00e0c78e965e118e7375704891f523193dc5d070a"), looks := false }, kinds := [], alts := [], laidByText := true, laidKinds := [.data], laidTests := true, laidLooks := .later }
def PagerRightUptoCardSaid : Prop := Claim7.holds Tryd.pinned (.plain (OpenSpec.upto pagerRightSpec)) pagerRightUptoCard

/-- THE SECOND FORM's CARD OF 'regaugelaw12.PagerTwo'. -/
def pagerTwoUptoCard : Claim7 := { stood := { row := pagerTwoUptoRow, standIns := [], harness := (true, "a2d5e9f5c850459fe6dbd3b00e0c78e965e118e7375704891f523193dc5d070a"), looks := false }, kinds := [], alts := [], laidByText := true, laidKinds := [.data], laidTests := true, laidLooks := .later }
def PagerTwoUptoCardSaid : Prop := Claim7.holds Tryd.pinned (.plain (OpenSpec.upto pagerTwoSpec)) pagerTwoUptoCard

/-- THE SECOND FORM's CARD OF 'regaugelaw12.PagerAgain'. -/
def pagerAgainUptoCard : Claim7 := { stood := { row := pagerAgainUptoRow, standIns := [], harness := (true, "a2d5e9f5c850459fe6dbd3b00e0c78e965e118e7375704891f523193dc5d070a"), looks := false }, kinds := [], alts := [], laidByText := true, laidKinds := [.data], laidTests := true, laidLooks := .later }
def PagerAgainUptoCardSaid : Prop := Claim7.holds Tryd.pinned (.plain (OpenSpec.upto pagerAgainSpec)) pagerAgainUptoCard
end Rows
end Go.Proofs.YtopaponemjaenaaDoor
