/-
  DERIVED. GIVEN WITH THE SEED: THE CARDS: each row of YtkhimppgpdaiaaaDoorRows.lean that lists a variable, with what it lists TIED to the program's text (the seventh form; the later family's looks); each row that meets fmt, with fmt's text TOLD by the authors' own Lean function (tested against real Go, not proved from fmt's source: count such statements apart). THE CARD IS WHAT COUNTS. Prove the row's statement (the work); the ties are given (YtkhimppgpdaiaaaDoorTie.lean); close each card by the builder's one call (the guide's Derived/Test/ToyasCard.lean, 'card_holds'). Laid BY PROGRAM, IN A SANDBOX (cutbox-door.mjs). By AI agents, Wed Nov 11 2026. No macro, syntax, notation, axiom, sorry.
-/
import Derived.Test.YtkhimppgpdaiaaaDoorRows
import GoSem.ClaimSeven
namespace Go.Proofs.YtkhimppgpdaiaaaDoor
namespace Rows

/-- THE TIED CARD OF 'regaugelaw05.ItemTraits'. -/
def itemTraitsCard : Claim7 := { stood := { row := itemTraitsRow, standIns := [], harness := (true, "7716850cbed83d9f800eaf00b3b8d889f96fe1d8d81080994087d72ab1286f7e"), looks := false }, kinds := [], alts := [], laidByText := true, laidKinds := [.data], laidTests := true, laidLooks := .later }
def ItemTraitsCardSaid : Prop := Claim7.holds Tryd.pinned (.plain (OpenSpec.ofChange itemTraitsSpec)) itemTraitsCard

/-- THE TIED CARD OF 'regaugelaw05.ItemRooms'. -/
def itemRoomsCard : Claim7 := { stood := { row := itemRoomsRow, standIns := [], harness := (true, "7716850cbed83d9f800eaf00b3b8d889f96fe1d8d81080994087d72ab1286f7e"), looks := false }, kinds := [], alts := [], laidByText := true, laidKinds := [.data], laidTests := true, laidLooks := .later }
def ItemRoomsCardSaid : Prop := Claim7.holds Tryd.pinned (.plain (OpenSpec.ofChange itemRoomsSpec)) itemRoomsCard

/-- THE TIED CARD OF 'regaugelaw05.ItemOrders'. -/
def itemOrdersCard : Claim7 := { stood := { row := itemOrdersRow, standIns := [], harness := (true, "7716850cbed83d9f800eaf00b3b8d889f96fe1d8d81080994087d72ab1286f7e"), looks := false }, kinds := [], alts := [], laidByText := true, laidKinds := [.data], laidTests := true, laidLooks := .later }
def ItemOrdersCardSaid : Prop := Claim7.holds Tryd.pinned (.plain (OpenSpec.ofChange itemOrdersSpec)) itemOrdersCard

/-- THE TIED CARD OF 'regaugelaw05.ItemOwn'. -/
def itemOwnCard : Claim7 := { stood := { row := itemOwnRow, standIns := [], harness := (true, "7716850cbed83d9f800eaf00b3b8d889f96fe1d8d81080994087d72ab1286f7e"), looks := false }, kinds := [], alts := [], laidByText := true, laidKinds := [.data], laidTests := true, laidLooks := .later }
def ItemOwnCardSaid : Prop := Claim7.holds Tryd.pinned (.plain (OpenSpec.ofChange itemOwnSpec)) itemOwnCard

/-- THE TIED CARD OF 'regaugelaw05.ItemFour'. -/
def itemFourCard : Claim7 := { stood := { row := itemFourRow, standIns := [], harness := (true, "7716850cbed83d9f800eaf00b3b8d889f96fe1d8d81080994087d72ab1286f7e"), looks := false }, kinds := [], alts := [], laidByText := true, laidKinds := [.data], laidTests := true, laidLooks := .later }
def ItemFourCardSaid : Prop := Claim7.holds Tryd.pinned (.plain (OpenSpec.ofChange itemFourSpec)) itemFourCard

/-- THE TIED CARD OF 'regaugelaw05.ItemGrows'. -/
def itemGrowsCard : Claim7 := { stood := { row := itemGrowsRow, standIns := [], harness := (true, "7716850cbed83d9f800eaf00b3b8d889f96fe1d8d81080994087d72ab1286f7e"), looks := false }, kinds := [], alts := [], laidByText := true, laidKinds := [.data], laidTests := true, laidLooks := .later }
def ItemGrowsCardSaid : Prop := Claim7.holds Tryd.pinned (.plain (OpenSpec.ofChange itemGrowsSpec)) itemGrowsCard

/-- THE SECOND FORM's CARD OF 'regaugelaw05.ItemTraits'. -/
def itemTraitsUptoCard : Claim7 := { stood := { row := itemTraitsUptoRow, standIns := [], harness := (true, "7716850cbed83d9f800eaf00b3b8d889f96fe1d8d81080994087d72ab1286f7e"), looks := false }, kinds := [], alts := [], laidByText := true, laidKinds := [.data], laidTests := true, laidLooks := .later }
def ItemTraitsUptoCardSaid : Prop := Claim7.holds Tryd.pinned (.plain (OpenSpec.upto itemTraitsSpec)) itemTraitsUptoCard

/-- THE SECOND FORM's CARD OF 'regaugelaw05.ItemRooms'. -/
def itemRoomsUptoCard : Claim7 := { stood := { row := itemRoomsUptoRow, standIns := [], harness := (true, "7716850cbed83d9f800eaf00b3b8d889f96fe1d8d81080994087d72ab1286f7e"), looks := false }, kinds := [], alts := [], laidByText := true, laidKinds := [.data], laidTests := true, laidLooks := .later }
def ItemRoomsUptoCardSaid : Prop := Claim7.holds Tryd.pinned (.plain (OpenSpec.upto itemRoomsSpec)) itemRoomsUptoCard

/-- THE SECOND FORM's CARD OF 'regaugelaw05.ItemOrders'. -/
def itemOrdersUptoCard : Claim7 := { stood := { row := itemOrdersUptoRow, standIns := [], harness := (true, "7716850cbed83d9f800eaf00b3b8d889f96fe1d8d81080994087d72ab1286f7e"), looks := false }, kinds := [], alts := [], laidByText := true, laidKinds := [.data], laidTests := true, laidLooks := .later }
def ItemOrdersUptoCardSaid : Prop := Claim7.holds Tryd.pinned (.plain (OpenSpec.upto itemOrdersSpec)) itemOrdersUptoCard

/-- THE SECOND FORM's CARD OF 'regaugelaw05.ItemOwn'. -/
def itemOwnUptoCard : Claim7 := { stood := { row := itemOwnUptoRow, standIns := [], harness := (true, "7716850cbed83d9f800eaf00b3b8d889f96fe1d8d81080994087d72ab1286f7e"), looks := false }, kinds := [], alts := [], laidByText := true, laidKinds := [.data], laidTests := true, laidLooks := .later }
def ItemOwnUptoCardSaid : Prop := Claim7.holds Tryd.pinned (.plain (OpenSpec.upto itemOwnSpec)) itemOwnUptoCard

/-- THE SECOND FORM's CARD OF 'regaugelaw05.ItemFour'. -/
def itemFourUptoCard : Claim7 := { stood := { row := itemFourUptoRow, standIns := [], harness := (true, "7716850cbed83d9f800eaf00b3b8d889f96fe1d8d81080994087d72ab1286f7e"), looks := false }, kinds := [], alts := [], laidByText := true, laidKinds := [.data], laidTests := true, laidLooks := .later }
def ItemFourUptoCardSaid : Prop := Claim7.holds Tryd.pinned (.plain (OpenSpec.upto itemFourSpec)) itemFourUptoCard

/-- THE SECOND FORM's CARD OF 'regaugelaw05.ItemGrows'. -/
def itemGrowsUptoCard : Claim7 := { stood := { row := itemGrowsUptoRow, standIns := [], harness := (true, "7716850cbed83d9f800eaf00b3b8d889f96fe1d8d81080994087d72ab1286f7e"), looks := false }, kinds := [], alts := [], laidByText := true, laidKinds := [.data], laidTests := true, laidLooks := .later }
def ItemGrowsUptoCardSaid : Prop := Claim7.holds Tryd.pinned (.plain (OpenSpec.upto itemGrowsSpec)) itemGrowsUptoCard
end Rows
end Go.Proofs.YtkhimppgpdaiaaaDoor
