/-
  NARROWER THAN 'FOR EVERY INPUT', by the rows' own cells (each row's printed sentence says how): ItemTraits: laid · ItemRooms: laid · ItemOrders: laid · ItemOwn: laid · ItemFour: laid · ItemGrows: laid.
  DERIVED. THE GIVEN ROWS OF THIS SEAT. 6 by the template 'for every input the law returns true; each argument reads behind the call as it read before'; 0 by the template 'total and deterministic' (their statements: YtkhimppgpdaiaaaDoorTotals.lean).
  GIVEN WITH THE SEED: the statements are not yours to turn. If you find one false, say at which input.
  Laid BY PROGRAM, IN A SANDBOX (cutbox-rows.mjs): the forced cells as the released guide's own fill.sh prints them over the translation 200d3953c0db687f… (all of the seat's roots in one cut). By AI agents, Wed Nov 11 2026. No macro, syntax, notation, axiom, sorry.
-/
import Derived.Test.YtkhimppgpdaiaaaDoorChecked
import GoSem.Claim
import GoSem.ClaimJoined
import GoSem.ClaimMapViews
import Derived.JoinedTies
import Derived.KernelRfl
namespace Go.Proofs.YtkhimppgpdaiaaaDoor
/- THE CELL 'sum', in the pinned program and in every row, IS THE sha256 OF THE DUMP (.gsa) THAT YtkhimppgpdaiaaaDoorProg.lean LOADS. Nothing in Lean hashes anything: it is a label: what it is worth is what the hold of that sum in a sandbox is worth. -/
noncomputable def Tryd.pinned : Pinned := { name := "ytkhimppgpdaiaaadoor", sum := "200d3953c0db687ffed09e930e3125ccb2bf4223791132e7ad480abf5d82d816", checked := Tryd.checked }
namespace Rows
def none {H : Type} : Left H := { results := [], args := [] }

/- WHAT THE LISTED PACKAGE-LEVEL VARIABLES READ AS WHEN THE CALL BEGINS. Each datum BY PROGRAM (the guide's laid-datum.mjs) off the statement by which the dump's own 'gosem.cut.vars' lays the variable. In a bare row this is a premise. The card (YtkhimppgpdaiaaaDoorCards.lean) ties it to the program's text. -/
def laid_regauge_item_gens {H : Type} : DataW H := .agg [.agg [.lit (.int .i64 0), .lit (.int .i64 0), .lit (.int .i64 0), .lit (.int .i64 0)], .agg [.lit (.int .i64 16), .lit (.int .i64 400), .lit (.int .i64 4), .lit (.int .i64 8)], .agg [.lit (.int .i64 20), .lit (.int .i64 800), .lit (.int .i64 8), .lit (.int .i64 16)], .agg [.lit (.int .i64 24), .lit (.int .i64 1600), .lit (.int .i64 8), .lit (.int .i64 16)]]

/-- 'regaugelaw05.ItemTraits': WHATEVER THE INPUT: true; the input reads as it did. -/
def itemTraitsSpec : ChangeSpec := { name := "itemTraits", fn := fun _ => fun
  | [d] => { results := [.lit (.bool true)], args := [d] }
  | _ => none }
def itemTraitsRow : OpenClaim := { program := "ytkhimppgpdaiaaadoor", sum := "200d3953c0db687ffed09e930e3125ccb2bf4223791132e7ad480abf5d82d816", func := "regauge/regaugelaw05.ItemTraits", spec := "itemTraits", inPlace := ["internal/bytealg.Compare"], named := ["regauge/item.gens"], apart := false, laid := [("regauge/item.gens", laid_regauge_item_gens)] }
def ItemTraitsSaid : Prop := itemTraitsRow.holds Tryd.pinned (OpenSpec.ofChange itemTraitsSpec)

/-- ITS FALSE NEIGHBOUR: 'it returns false'. Refute it at one input. -/
def itemTraitsWrong : ChangeSpec := { name := "itemTraits", fn := fun _ => fun
  | [d] => { results := [.lit (.bool false)], args := [d] }
  | _ => none }
def ItemTraitsWrongFalsely : Prop := itemTraitsRow.holds Tryd.pinned (OpenSpec.ofChange itemTraitsWrong)

/-- 'regaugelaw05.ItemRooms': WHATEVER THE INPUT: true; the input reads as it did. -/
def itemRoomsSpec : ChangeSpec := { name := "itemRooms", fn := fun _ => fun
  | [d1, d2] => { results := [.lit (.bool true)], args := [d1, d2] }
  | _ => none }
def itemRoomsRow : OpenClaim := { program := "ytkhimppgpdaiaaadoor", sum := "200d3953c0db687ffed09e930e3125ccb2bf4223791132e7ad480abf5d82d816", func := "regauge/regaugelaw05.ItemRooms", spec := "itemRooms", inPlace := ["internal/bytealg.Compare"], named := ["regauge/item.gens"], apart := false, laid := [("regauge/item.gens", laid_regauge_item_gens)] }
def ItemRoomsSaid : Prop := itemRoomsRow.holds Tryd.pinned (OpenSpec.ofChange itemRoomsSpec)

/-- ITS FALSE NEIGHBOUR: 'it returns false'. Refute it at one input. -/
def itemRoomsWrong : ChangeSpec := { name := "itemRooms", fn := fun _ => fun
  | [d1, d2] => { results := [.lit (.bool false)], args := [d1, d2] }
  | _ => none }
def ItemRoomsWrongFalsely : Prop := itemRoomsRow.holds Tryd.pinned (OpenSpec.ofChange itemRoomsWrong)

/-- 'regaugelaw05.ItemOrders': WHATEVER THE INPUT: true; the input reads as it did. -/
def itemOrdersSpec : ChangeSpec := { name := "itemOrders", fn := fun _ => fun
  | [d1, d2, d3] => { results := [.lit (.bool true)], args := [d1, d2, d3] }
  | _ => none }
def itemOrdersRow : OpenClaim := { program := "ytkhimppgpdaiaaadoor", sum := "200d3953c0db687ffed09e930e3125ccb2bf4223791132e7ad480abf5d82d816", func := "regauge/regaugelaw05.ItemOrders", spec := "itemOrders", inPlace := ["internal/bytealg.Compare"], named := ["regauge/item.gens"], apart := false, laid := [("regauge/item.gens", laid_regauge_item_gens)] }
def ItemOrdersSaid : Prop := itemOrdersRow.holds Tryd.pinned (OpenSpec.ofChange itemOrdersSpec)

/-- ITS FALSE NEIGHBOUR: 'it returns false'. Refute it at one input. -/
def itemOrdersWrong : ChangeSpec := { name := "itemOrders", fn := fun _ => fun
  | [d1, d2, d3] => { results := [.lit (.bool false)], args := [d1, d2, d3] }
  | _ => none }
def ItemOrdersWrongFalsely : Prop := itemOrdersRow.holds Tryd.pinned (OpenSpec.ofChange itemOrdersWrong)

/-- 'regaugelaw05.ItemOwn': WHATEVER THE INPUT: true; the input reads as it did. -/
def itemOwnSpec : ChangeSpec := { name := "itemOwn", fn := fun _ => fun
  | [d1, d2] => { results := [.lit (.bool true)], args := [d1, d2] }
  | _ => none }
def itemOwnRow : OpenClaim := { program := "ytkhimppgpdaiaaadoor", sum := "200d3953c0db687ffed09e930e3125ccb2bf4223791132e7ad480abf5d82d816", func := "regauge/regaugelaw05.ItemOwn", spec := "itemOwn", inPlace := ["internal/bytealg.Compare"], named := ["regauge/item.gens"], apart := false, laid := [("regauge/item.gens", laid_regauge_item_gens)] }
def ItemOwnSaid : Prop := itemOwnRow.holds Tryd.pinned (OpenSpec.ofChange itemOwnSpec)

/-- ITS FALSE NEIGHBOUR: 'it returns false'. Refute it at one input. -/
def itemOwnWrong : ChangeSpec := { name := "itemOwn", fn := fun _ => fun
  | [d1, d2] => { results := [.lit (.bool false)], args := [d1, d2] }
  | _ => none }
def ItemOwnWrongFalsely : Prop := itemOwnRow.holds Tryd.pinned (OpenSpec.ofChange itemOwnWrong)

/-- 'regaugelaw05.ItemFour': WHATEVER THE INPUT: true; the input reads as it did. -/
def itemFourSpec : ChangeSpec := { name := "itemFour", fn := fun _ => fun
  | [d1, d2] => { results := [.lit (.bool true)], args := [d1, d2] }
  | _ => none }
def itemFourRow : OpenClaim := { program := "ytkhimppgpdaiaaadoor", sum := "200d3953c0db687ffed09e930e3125ccb2bf4223791132e7ad480abf5d82d816", func := "regauge/regaugelaw05.ItemFour", spec := "itemFour", inPlace := ["internal/bytealg.Compare"], named := ["regauge/item.gens"], apart := false, laid := [("regauge/item.gens", laid_regauge_item_gens)] }
def ItemFourSaid : Prop := itemFourRow.holds Tryd.pinned (OpenSpec.ofChange itemFourSpec)

/-- ITS FALSE NEIGHBOUR: 'it returns false'. Refute it at one input. -/
def itemFourWrong : ChangeSpec := { name := "itemFour", fn := fun _ => fun
  | [d1, d2] => { results := [.lit (.bool false)], args := [d1, d2] }
  | _ => none }
def ItemFourWrongFalsely : Prop := itemFourRow.holds Tryd.pinned (OpenSpec.ofChange itemFourWrong)

/-- 'regaugelaw05.ItemGrows': WHATEVER THE INPUT: true; the input reads as it did. -/
def itemGrowsSpec : ChangeSpec := { name := "itemGrows", fn := fun _ => fun
  | [d1, d2, d3] => { results := [.lit (.bool true)], args := [d1, d2, d3] }
  | _ => none }
def itemGrowsRow : OpenClaim := { program := "ytkhimppgpdaiaaadoor", sum := "200d3953c0db687ffed09e930e3125ccb2bf4223791132e7ad480abf5d82d816", func := "regauge/regaugelaw05.ItemGrows", spec := "itemGrows", inPlace := ["internal/bytealg.Compare"], named := ["regauge/item.gens"], apart := false, laid := [("regauge/item.gens", laid_regauge_item_gens)] }
def ItemGrowsSaid : Prop := itemGrowsRow.holds Tryd.pinned (OpenSpec.ofChange itemGrowsSpec)

/-- ITS FALSE NEIGHBOUR: 'it returns false'. Refute it at one input. -/
def itemGrowsWrong : ChangeSpec := { name := "itemGrows", fn := fun _ => fun
  | [d1, d2, d3] => { results := [.lit (.bool false)], args := [d1, d2, d3] }
  | _ => none }
def ItemGrowsWrongFalsely : Prop := itemGrowsRow.holds Tryd.pinned (OpenSpec.ofChange itemGrowsWrong)

/- THE SECOND FORM. 'bulk': how many values and letters a reading holds, each counted each time it is reached (what is shared counts as often as it is met; a slice's spare places count too). A statement '..UptoSaid' is the law's where the arguments, and the package variables that the reading takes, are together of bulk at most 1048576: NARROWER than '..Said'. Prove '..Said' where nothing that the law and all that it calls make is longer than what came in: it says more and counts as full. Else prove '..UptoSaid'. A law counts once. -/
mutual
def uptoBulk {H : Type} : DataW H → Nat
  | .lit (.string bytes) => bytes.length + 1
  | .lit _ => 1
  | .nil => 1
  | .ptr d => uptoBulk d + 1
  | .slice elems spare => uptoBulkAll elems + uptoBulkAll spare + 1
  | .agg parts => uptoBulkAll parts + 1
  | .iface _ d => uptoBulk d + 1
  | .map entries => uptoBulkEntries entries + 1
  | .held _ => 1
def uptoBulkAll {H : Type} : List (DataW H) → Nat
  | [] => 0
  | d :: r => uptoBulk d + uptoBulkAll r
def uptoBulkEntries {H : Type} : List (Lit × DataW H) → Nat
  | [] => 0
  | x :: r => uptoBulkEntry x + uptoBulkEntries r
def uptoBulkEntry {H : Type} : Lit × DataW H → Nat
  | (.string bytes, d) => bytes.length + uptoBulk d + 1
  | (_, d) => uptoBulk d + 1
 end
def uptoSmall : (H : Type) → List (DataW H) → Bool := fun _ ds => decide (uptoBulkAll ds ≤ 1048576)
def OpenSpec.upto (s : _root_.Go.ChangeSpec) : _root_.Go.OpenSpec := { _root_.Go.OpenSpec.ofChange s with cond := some uptoSmall }

/-- 'regaugelaw05.ItemTraits', WHERE WHAT IT READS IS OF BULK AT MOST 1048576: true; the input reads as it did. -/
def itemTraitsUptoRow : OpenClaim := { program := "ytkhimppgpdaiaaadoor", sum := "200d3953c0db687ffed09e930e3125ccb2bf4223791132e7ad480abf5d82d816", func := "regauge/regaugelaw05.ItemTraits", spec := "itemTraits", inPlace := ["internal/bytealg.Compare"], named := ["regauge/item.gens"], apart := false, laid := [("regauge/item.gens", laid_regauge_item_gens)], narrowed := true }
def ItemTraitsUptoSaid : Prop := itemTraitsUptoRow.holds Tryd.pinned (OpenSpec.upto itemTraitsSpec)

/-- 'regaugelaw05.ItemRooms', WHERE WHAT IT READS IS OF BULK AT MOST 1048576: true; the input reads as it did. -/
def itemRoomsUptoRow : OpenClaim := { program := "ytkhimppgpdaiaaadoor", sum := "200d3953c0db687ffed09e930e3125ccb2bf4223791132e7ad480abf5d82d816", func := "regauge/regaugelaw05.ItemRooms", spec := "itemRooms", inPlace := ["internal/bytealg.Compare"], named := ["regauge/item.gens"], apart := false, laid := [("regauge/item.gens", laid_regauge_item_gens)], narrowed := true }
def ItemRoomsUptoSaid : Prop := itemRoomsUptoRow.holds Tryd.pinned (OpenSpec.upto itemRoomsSpec)

/-- 'regaugelaw05.ItemOrders', WHERE WHAT IT READS IS OF BULK AT MOST 1048576: true; the input reads as it did. -/
def itemOrdersUptoRow : OpenClaim := { program := "ytkhimppgpdaiaaadoor", sum := "200d3953c0db687ffed09e930e3125ccb2bf4223791132e7ad480abf5d82d816", func := "regauge/regaugelaw05.ItemOrders", spec := "itemOrders", inPlace := ["internal/bytealg.Compare"], named := ["regauge/item.gens"], apart := false, laid := [("regauge/item.gens", laid_regauge_item_gens)], narrowed := true }
def ItemOrdersUptoSaid : Prop := itemOrdersUptoRow.holds Tryd.pinned (OpenSpec.upto itemOrdersSpec)

/-- 'regaugelaw05.ItemOwn', WHERE WHAT IT READS IS OF BULK AT MOST 1048576: true; the input reads as it did. -/
def itemOwnUptoRow : OpenClaim := { program := "ytkhimppgpdaiaaadoor", sum := "200d3953c0db687ffed09e930e3125ccb2bf4223791132e7ad480abf5d82d816", func := "regauge/regaugelaw05.ItemOwn", spec := "itemOwn", inPlace := ["internal/bytealg.Compare"], named := ["regauge/item.gens"], apart := false, laid := [("regauge/item.gens", laid_regauge_item_gens)], narrowed := true }
def ItemOwnUptoSaid : Prop := itemOwnUptoRow.holds Tryd.pinned (OpenSpec.upto itemOwnSpec)

/-- 'regaugelaw05.ItemFour', WHERE WHAT IT READS IS OF BULK AT MOST 1048576: true; the input reads as it did. -/
def itemFourUptoRow : OpenClaim := { program := "ytkhimppgpdaiaaadoor", sum := "200d3953c0db687ffed09e930e3125ccb2bf4223791132e7ad480abf5d82d816", func := "regauge/regaugelaw05.ItemFour", spec := "itemFour", inPlace := ["internal/bytealg.Compare"], named := ["regauge/item.gens"], apart := false, laid := [("regauge/item.gens", laid_regauge_item_gens)], narrowed := true }
def ItemFourUptoSaid : Prop := itemFourUptoRow.holds Tryd.pinned (OpenSpec.upto itemFourSpec)

/-- 'regaugelaw05.ItemGrows', WHERE WHAT IT READS IS OF BULK AT MOST 1048576: true; the input reads as it did. -/
def itemGrowsUptoRow : OpenClaim := { program := "ytkhimppgpdaiaaadoor", sum := "200d3953c0db687ffed09e930e3125ccb2bf4223791132e7ad480abf5d82d816", func := "regauge/regaugelaw05.ItemGrows", spec := "itemGrows", inPlace := ["internal/bytealg.Compare"], named := ["regauge/item.gens"], apart := false, laid := [("regauge/item.gens", laid_regauge_item_gens)], narrowed := true }
def ItemGrowsUptoSaid : Prop := itemGrowsUptoRow.holds Tryd.pinned (OpenSpec.upto itemGrowsSpec)

end Rows
end Go.Proofs.YtkhimppgpdaiaaaDoor
