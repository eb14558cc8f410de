/-
  NARROWER THAN 'FOR EVERY INPUT', by the rows' own cells (each row's printed sentence says how): OverMany: laid · OverDecodes: laid · OverTorn: laid · OverApart: laid · MetaEncodes: laid · MetaDecodes: laid · MetaChooses: laid · MetaSame: laid · MetaZeros: laid · MetaNewer: laid.
  DERIVED. THE GIVEN ROWS OF THIS SEAT. 10 by the template 'for every input the law returns true; each argument reads behind the call as it read before'; 0 by the template 'total and deterministic' (their statements: YtoghojgajpfkkaaDoorTotals.lean).
  GIVEN WITH THE SEED: the statements are not yours to turn. If you find one false, say at which input.
  Laid BY PROGRAM, IN A SANDBOX (cutbox-rows.mjs): the forced cells as the released guide's own fill.sh prints them over the translation 359ef2e20eceedfa… (all of the seat's roots in one cut). By AI agents, Wed Nov 11 2026. No macro, syntax, notation, axiom, sorry.
-/
import Derived.Test.YtoghojgajpfkkaaDoorChecked
import GoSem.Claim
import GoSem.ClaimJoined
import GoSem.ClaimMapViews
import Derived.JoinedTies
import Derived.KernelRfl
namespace Go.Proofs.YtoghojgajpfkkaaDoor
/- THE CELL 'sum', in the pinned program and in every row, IS THE sha256 OF THE DUMP (.gsa) THAT YtoghojgajpfkkaaDoorProg.lean LOADS. Nothing in Lean hashes anything: it is a label: what it is worth is what the hold of that sum in a sandbox is worth. -/
noncomputable def Tryd.pinned : Pinned := { name := "ytoghojgajpfkkaadoor", sum := "359ef2e20eceedfae7ac27116924e0f662edcbebf67192c6ed7cccb26f171256", checked := Tryd.checked }
namespace Rows
def none {H : Type} : Left H := { results := [], args := [] }

/- WHAT THE LISTED PACKAGE-LEVEL VARIABLES READ AS WHEN THE CALL BEGINS. Each datum BY PROGRAM (the guide's laid-datum.mjs) off the statement by which the dump's own 'gosem.cut.vars' lays the variable. In a bare row this is a premise. The card (YtoghojgajpfkkaaDoorCards.lean) ties it to the program's text. -/
def laid_regauge_item_gens {H : Type} : DataW H := .agg [.agg [.lit (.int .i64 0), .lit (.int .i64 0), .lit (.int .i64 0), .lit (.int .i64 0)], .agg [.lit (.int .i64 16), .lit (.int .i64 400), .lit (.int .i64 4), .lit (.int .i64 8)], .agg [.lit (.int .i64 20), .lit (.int .i64 800), .lit (.int .i64 8), .lit (.int .i64 16)], .agg [.lit (.int .i64 24), .lit (.int .i64 1600), .lit (.int .i64 8), .lit (.int .i64 16)]]

/-- 'regaugelaw08.OverMany': WHATEVER THE INPUT: true; the input reads as it did. -/
def overManySpec : ChangeSpec := { name := "overMany", fn := fun _ => fun
  | [d1, d2] => { results := [.lit (.bool true)], args := [d1, d2] }
  | _ => none }
def overManyRow : OpenClaim := { program := "ytoghojgajpfkkaadoor", sum := "359ef2e20eceedfae7ac27116924e0f662edcbebf67192c6ed7cccb26f171256", func := "regauge/regaugelaw08.OverMany", spec := "overMany", inPlace := ["internal/bytealg.MakeNoZero"], unfollowed := true, recurses := true, named := ["regauge/item.gens"], apart := false, laid := [("regauge/item.gens", laid_regauge_item_gens)] }
def OverManySaid : Prop := overManyRow.holds Tryd.pinned (OpenSpec.ofChange overManySpec)

/-- ITS FALSE NEIGHBOUR: 'it returns false'. Refute it at one input. -/
def overManyWrong : ChangeSpec := { name := "overMany", fn := fun _ => fun
  | [d1, d2] => { results := [.lit (.bool false)], args := [d1, d2] }
  | _ => none }
def OverManyWrongFalsely : Prop := overManyRow.holds Tryd.pinned (OpenSpec.ofChange overManyWrong)

/-- 'regaugelaw08.OverDecodes': WHATEVER THE INPUT: true; the input reads as it did. -/
def overDecodesSpec : ChangeSpec := { name := "overDecodes", fn := fun _ => fun
  | [d1, d2, d3] => { results := [.lit (.bool true)], args := [d1, d2, d3] }
  | _ => none }
def overDecodesRow : OpenClaim := { program := "ytoghojgajpfkkaadoor", sum := "359ef2e20eceedfae7ac27116924e0f662edcbebf67192c6ed7cccb26f171256", func := "regauge/regaugelaw08.OverDecodes", spec := "overDecodes", inPlace := ["internal/bytealg.MakeNoZero"], unfollowed := true, recurses := true, named := ["regauge/item.gens"], apart := false, laid := [("regauge/item.gens", laid_regauge_item_gens)] }
def OverDecodesSaid : Prop := overDecodesRow.holds Tryd.pinned (OpenSpec.ofChange overDecodesSpec)

/-- ITS FALSE NEIGHBOUR: 'it returns false'. Refute it at one input. -/
def overDecodesWrong : ChangeSpec := { name := "overDecodes", fn := fun _ => fun
  | [d1, d2, d3] => { results := [.lit (.bool false)], args := [d1, d2, d3] }
  | _ => none }
def OverDecodesWrongFalsely : Prop := overDecodesRow.holds Tryd.pinned (OpenSpec.ofChange overDecodesWrong)

/-- 'regaugelaw08.OverTorn': WHATEVER THE INPUT: true; the input reads as it did. -/
def overTornSpec : ChangeSpec := { name := "overTorn", fn := fun _ => fun
  | [d1, d2, d3] => { results := [.lit (.bool true)], args := [d1, d2, d3] }
  | _ => none }
def overTornRow : OpenClaim := { program := "ytoghojgajpfkkaadoor", sum := "359ef2e20eceedfae7ac27116924e0f662edcbebf67192c6ed7cccb26f171256", func := "regauge/regaugelaw08.OverTorn", spec := "overTorn", inPlace := ["internal/bytealg.MakeNoZero"], unfollowed := true, recurses := true, named := ["regauge/item.gens"], apart := false, laid := [("regauge/item.gens", laid_regauge_item_gens)] }
def OverTornSaid : Prop := overTornRow.holds Tryd.pinned (OpenSpec.ofChange overTornSpec)

/-- ITS FALSE NEIGHBOUR: 'it returns false'. Refute it at one input. -/
def overTornWrong : ChangeSpec := { name := "overTorn", fn := fun _ => fun
  | [d1, d2, d3] => { results := [.lit (.bool false)], args := [d1, d2, d3] }
  | _ => none }
def OverTornWrongFalsely : Prop := overTornRow.holds Tryd.pinned (OpenSpec.ofChange overTornWrong)

/-- 'regaugelaw08.OverApart': WHATEVER THE INPUT: true; the input reads as it did. -/
def overApartSpec : ChangeSpec := { name := "overApart", fn := fun _ => fun
  | [d1, d2, d3] => { results := [.lit (.bool true)], args := [d1, d2, d3] }
  | _ => none }
def overApartRow : OpenClaim := { program := "ytoghojgajpfkkaadoor", sum := "359ef2e20eceedfae7ac27116924e0f662edcbebf67192c6ed7cccb26f171256", func := "regauge/regaugelaw08.OverApart", spec := "overApart", inPlace := ["internal/bytealg.MakeNoZero"], unfollowed := true, recurses := true, named := ["regauge/item.gens"], apart := false, laid := [("regauge/item.gens", laid_regauge_item_gens)] }
def OverApartSaid : Prop := overApartRow.holds Tryd.pinned (OpenSpec.ofChange overApartSpec)

/-- ITS FALSE NEIGHBOUR: 'it returns false'. Refute it at one input. -/
def overApartWrong : ChangeSpec := { name := "overApart", fn := fun _ => fun
  | [d1, d2, d3] => { results := [.lit (.bool false)], args := [d1, d2, d3] }
  | _ => none }
def OverApartWrongFalsely : Prop := overApartRow.holds Tryd.pinned (OpenSpec.ofChange overApartWrong)

/-- 'regaugelaw09.MetaEncodes': WHATEVER THE INPUT: true; the input reads as it did. -/
def metaEncodesSpec : ChangeSpec := { name := "metaEncodes", fn := fun _ => fun
  | [d] => { results := [.lit (.bool true)], args := [d] }
  | _ => none }
def metaEncodesRow : OpenClaim := { program := "ytoghojgajpfkkaadoor", sum := "359ef2e20eceedfae7ac27116924e0f662edcbebf67192c6ed7cccb26f171256", func := "regauge/regaugelaw09.MetaEncodes", spec := "metaEncodes", named := ["regauge/item.gens"], apart := false, laid := [("regauge/item.gens", laid_regauge_item_gens)] }
def MetaEncodesSaid : Prop := metaEncodesRow.holds Tryd.pinned (OpenSpec.ofChange metaEncodesSpec)

/-- ITS FALSE NEIGHBOUR: 'it returns false'. Refute it at one input. -/
def metaEncodesWrong : ChangeSpec := { name := "metaEncodes", fn := fun _ => fun
  | [d] => { results := [.lit (.bool false)], args := [d] }
  | _ => none }
def MetaEncodesWrongFalsely : Prop := metaEncodesRow.holds Tryd.pinned (OpenSpec.ofChange metaEncodesWrong)

/-- 'regaugelaw09.MetaDecodes': WHATEVER THE INPUT: true; the input reads as it did. -/
def metaDecodesSpec : ChangeSpec := { name := "metaDecodes", fn := fun _ => fun
  | [d] => { results := [.lit (.bool true)], args := [d] }
  | _ => none }
def metaDecodesRow : OpenClaim := { program := "ytoghojgajpfkkaadoor", sum := "359ef2e20eceedfae7ac27116924e0f662edcbebf67192c6ed7cccb26f171256", func := "regauge/regaugelaw09.MetaDecodes", spec := "metaDecodes", named := ["regauge/item.gens"], apart := false, laid := [("regauge/item.gens", laid_regauge_item_gens)] }
def MetaDecodesSaid : Prop := metaDecodesRow.holds Tryd.pinned (OpenSpec.ofChange metaDecodesSpec)

/-- ITS FALSE NEIGHBOUR: 'it returns false'. Refute it at one input. -/
def metaDecodesWrong : ChangeSpec := { name := "metaDecodes", fn := fun _ => fun
  | [d] => { results := [.lit (.bool false)], args := [d] }
  | _ => none }
def MetaDecodesWrongFalsely : Prop := metaDecodesRow.holds Tryd.pinned (OpenSpec.ofChange metaDecodesWrong)

/-- 'regaugelaw09.MetaChooses': WHATEVER THE INPUT: true; the input reads as it did. -/
def metaChoosesSpec : ChangeSpec := { name := "metaChooses", fn := fun _ => fun
  | [d1, d2] => { results := [.lit (.bool true)], args := [d1, d2] }
  | _ => none }
def metaChoosesRow : OpenClaim := { program := "ytoghojgajpfkkaadoor", sum := "359ef2e20eceedfae7ac27116924e0f662edcbebf67192c6ed7cccb26f171256", func := "regauge/regaugelaw09.MetaChooses", spec := "metaChooses", named := ["regauge/item.gens"], apart := false, laid := [("regauge/item.gens", laid_regauge_item_gens)] }
def MetaChoosesSaid : Prop := metaChoosesRow.holds Tryd.pinned (OpenSpec.ofChange metaChoosesSpec)

/-- ITS FALSE NEIGHBOUR: 'it returns false'. Refute it at one input. -/
def metaChoosesWrong : ChangeSpec := { name := "metaChooses", fn := fun _ => fun
  | [d1, d2] => { results := [.lit (.bool false)], args := [d1, d2] }
  | _ => none }
def MetaChoosesWrongFalsely : Prop := metaChoosesRow.holds Tryd.pinned (OpenSpec.ofChange metaChoosesWrong)

/-- 'regaugelaw09.MetaSame': WHATEVER THE INPUT: true; the input reads as it did. -/
def metaSameSpec : ChangeSpec := { name := "metaSame", fn := fun _ => fun
  | [d1, d2] => { results := [.lit (.bool true)], args := [d1, d2] }
  | _ => none }
def metaSameRow : OpenClaim := { program := "ytoghojgajpfkkaadoor", sum := "359ef2e20eceedfae7ac27116924e0f662edcbebf67192c6ed7cccb26f171256", func := "regauge/regaugelaw09.MetaSame", spec := "metaSame", named := ["regauge/item.gens"], apart := false, laid := [("regauge/item.gens", laid_regauge_item_gens)] }
def MetaSameSaid : Prop := metaSameRow.holds Tryd.pinned (OpenSpec.ofChange metaSameSpec)

/-- ITS FALSE NEIGHBOUR: 'it returns false'. Refute it at one input. -/
def metaSameWrong : ChangeSpec := { name := "metaSame", fn := fun _ => fun
  | [d1, d2] => { results := [.lit (.bool false)], args := [d1, d2] }
  | _ => none }
def MetaSameWrongFalsely : Prop := metaSameRow.holds Tryd.pinned (OpenSpec.ofChange metaSameWrong)

/-- 'regaugelaw09.MetaZeros': WHATEVER THE INPUT: true; the input reads as it did. -/
def metaZerosSpec : ChangeSpec := { name := "metaZeros", fn := fun _ => fun
  | [d1, d2] => { results := [.lit (.bool true)], args := [d1, d2] }
  | _ => none }
def metaZerosRow : OpenClaim := { program := "ytoghojgajpfkkaadoor", sum := "359ef2e20eceedfae7ac27116924e0f662edcbebf67192c6ed7cccb26f171256", func := "regauge/regaugelaw09.MetaZeros", spec := "metaZeros", named := ["regauge/item.gens"], apart := false, laid := [("regauge/item.gens", laid_regauge_item_gens)] }
def MetaZerosSaid : Prop := metaZerosRow.holds Tryd.pinned (OpenSpec.ofChange metaZerosSpec)

/-- ITS FALSE NEIGHBOUR: 'it returns false'. Refute it at one input. -/
def metaZerosWrong : ChangeSpec := { name := "metaZeros", fn := fun _ => fun
  | [d1, d2] => { results := [.lit (.bool false)], args := [d1, d2] }
  | _ => none }
def MetaZerosWrongFalsely : Prop := metaZerosRow.holds Tryd.pinned (OpenSpec.ofChange metaZerosWrong)

/-- 'regaugelaw09.MetaNewer': WHATEVER THE INPUT: true; the input reads as it did. -/
def metaNewerSpec : ChangeSpec := { name := "metaNewer", fn := fun _ => fun
  | [d1, d2] => { results := [.lit (.bool true)], args := [d1, d2] }
  | _ => none }
def metaNewerRow : OpenClaim := { program := "ytoghojgajpfkkaadoor", sum := "359ef2e20eceedfae7ac27116924e0f662edcbebf67192c6ed7cccb26f171256", func := "regauge/regaugelaw09.MetaNewer", spec := "metaNewer", named := ["regauge/item.gens"], apart := false, laid := [("regauge/item.gens", laid_regauge_item_gens)] }
def MetaNewerSaid : Prop := metaNewerRow.holds Tryd.pinned (OpenSpec.ofChange metaNewerSpec)

/-- ITS FALSE NEIGHBOUR: 'it returns false'. Refute it at one input. -/
def metaNewerWrong : ChangeSpec := { name := "metaNewer", fn := fun _ => fun
  | [d1, d2] => { results := [.lit (.bool false)], args := [d1, d2] }
  | _ => none }
def MetaNewerWrongFalsely : Prop := metaNewerRow.holds Tryd.pinned (OpenSpec.ofChange metaNewerWrong)

/- THE SECOND FORM. 'bulk': how many values and letters a reading holds, each counted each time it is reached (what is shared counts as often as it is met; a slice's spare places count too). A statement '..UptoSaid' is the law's where the arguments, and the package variables that the reading takes, are together of bulk at most 1048576: NARROWER than '..Said'. Prove '..Said' where nothing that the law and all that it calls make is longer than what came in: it says more and counts as full. Else prove '..UptoSaid'. A law counts once. -/
mutual
def uptoBulk {H : Type} : DataW H → Nat
  | .lit (.string bytes) => bytes.length + 1
  | .lit _ => 1
  | .nil => 1
  | .ptr d => uptoBulk d + 1
  | .slice elems spare => uptoBulkAll elems + uptoBulkAll spare + 1
  | .agg parts => uptoBulkAll parts + 1
  | .iface _ d => uptoBulk d + 1
  | .map entries => uptoBulkEntries entries + 1
  | .held _ => 1
def uptoBulkAll {H : Type} : List (DataW H) → Nat
  | [] => 0
  | d :: r => uptoBulk d + uptoBulkAll r
def uptoBulkEntries {H : Type} : List (Lit × DataW H) → Nat
  | [] => 0
  | x :: r => uptoBulkEntry x + uptoBulkEntries r
def uptoBulkEntry {H : Type} : Lit × DataW H → Nat
  | (.string bytes, d) => bytes.length + uptoBulk d + 1
  | (_, d) => uptoBulk d + 1
 end
def uptoSmall : (H : Type) → List (DataW H) → Bool := fun _ ds => decide (uptoBulkAll ds ≤ 1048576)
def OpenSpec.upto (s : _root_.Go.ChangeSpec) : _root_.Go.OpenSpec := { _root_.Go.OpenSpec.ofChange s with cond := some uptoSmall }

/-- 'regaugelaw08.OverMany', WHERE WHAT IT READS IS OF BULK AT MOST 1048576: true; the input reads as it did. -/
def overManyUptoRow : OpenClaim := { program := "ytoghojgajpfkkaadoor", sum := "359ef2e20eceedfae7ac27116924e0f662edcbebf67192c6ed7cccb26f171256", func := "regauge/regaugelaw08.OverMany", spec := "overMany", inPlace := ["internal/bytealg.MakeNoZero"], unfollowed := true, recurses := true, named := ["regauge/item.gens"], apart := false, laid := [("regauge/item.gens", laid_regauge_item_gens)], narrowed := true }
def OverManyUptoSaid : Prop := overManyUptoRow.holds Tryd.pinned (OpenSpec.upto overManySpec)

/-- 'regaugelaw08.OverDecodes', WHERE WHAT IT READS IS OF BULK AT MOST 1048576: true; the input reads as it did. -/
def overDecodesUptoRow : OpenClaim := { program := "ytoghojgajpfkkaadoor", sum := "359ef2e20eceedfae7ac27116924e0f662edcbebf67192c6ed7cccb26f171256", func := "regauge/regaugelaw08.OverDecodes", spec := "overDecodes", inPlace := ["internal/bytealg.MakeNoZero"], unfollowed := true, recurses := true, named := ["regauge/item.gens"], apart := false, laid := [("regauge/item.gens", laid_regauge_item_gens)], narrowed := true }
def OverDecodesUptoSaid : Prop := overDecodesUptoRow.holds Tryd.pinned (OpenSpec.upto overDecodesSpec)

/-- 'regaugelaw08.OverTorn', WHERE WHAT IT READS IS OF BULK AT MOST 1048576: true; the input reads as it did. -/
def overTornUptoRow : OpenClaim := { program := "ytoghojgajpfkkaadoor", sum := "359ef2e20eceedfae7ac27116924e0f662edcbebf67192c6ed7cccb26f171256", func := "regauge/regaugelaw08.OverTorn", spec := "overTorn", inPlace := ["internal/bytealg.MakeNoZero"], unfollowed := true, recurses := true, named := ["regauge/item.gens"], apart := false, laid := [("regauge/item.gens", laid_regauge_item_gens)], narrowed := true }
def OverTornUptoSaid : Prop := overTornUptoRow.holds Tryd.pinned (OpenSpec.upto overTornSpec)

/-- 'regaugelaw08.OverApart', WHERE WHAT IT READS IS OF BULK AT MOST 1048576: true; the input reads as it did. -/
def overApartUptoRow : OpenClaim := { program := "ytoghojgajpfkkaadoor", sum := "359ef2e20eceedfae7ac27116924e0f662edcbebf67192c6ed7cccb26f171256", func := "regauge/regaugelaw08.OverApart", spec := "overApart", inPlace := ["internal/bytealg.MakeNoZero"], unfollowed := true, recurses := true, named := ["regauge/item.gens"], apart := false, laid := [("regauge/item.gens", laid_regauge_item_gens)], narrowed := true }
def OverApartUptoSaid : Prop := overApartUptoRow.holds Tryd.pinned (OpenSpec.upto overApartSpec)

/-- 'regaugelaw09.MetaEncodes', WHERE WHAT IT READS IS OF BULK AT MOST 1048576: true; the input reads as it did. -/
def metaEncodesUptoRow : OpenClaim := { program := "ytoghojgajpfkkaadoor", sum := "359ef2e20eceedfae7ac27116924e0f662edcbebf67192c6ed7cccb26f171256", func := "regauge/regaugelaw09.MetaEncodes", spec := "metaEncodes", named := ["regauge/item.gens"], apart := false, laid := [("regauge/item.gens", laid_regauge_item_gens)], narrowed := true }
def MetaEncodesUptoSaid : Prop := metaEncodesUptoRow.holds Tryd.pinned (OpenSpec.upto metaEncodesSpec)

/-- 'regaugelaw09.MetaDecodes', WHERE WHAT IT READS IS OF BULK AT MOST 1048576: true; the input reads as it did. -/
def metaDecodesUptoRow : OpenClaim := { program := "ytoghojgajpfkkaadoor", sum := "359ef2e20eceedfae7ac27116924e0f662edcbebf67192c6ed7cccb26f171256", func := "regauge/regaugelaw09.MetaDecodes", spec := "metaDecodes", named := ["regauge/item.gens"], apart := false, laid := [("regauge/item.gens", laid_regauge_item_gens)], narrowed := true }
def MetaDecodesUptoSaid : Prop := metaDecodesUptoRow.holds Tryd.pinned (OpenSpec.upto metaDecodesSpec)

/-- 'regaugelaw09.MetaChooses', WHERE WHAT IT READS IS OF BULK AT MOST 1048576: true; the input reads as it did. -/
def metaChoosesUptoRow : OpenClaim := { program := "ytoghojgajpfkkaadoor", sum := "359ef2e20eceedfae7ac27116924e0f662edcbebf67192c6ed7cccb26f171256", func := "regauge/regaugelaw09.MetaChooses", spec := "metaChooses", named := ["regauge/item.gens"], apart := false, laid := [("regauge/item.gens", laid_regauge_item_gens)], narrowed := true }
def MetaChoosesUptoSaid : Prop := metaChoosesUptoRow.holds Tryd.pinned (OpenSpec.upto metaChoosesSpec)

/-- 'regaugelaw09.MetaSame', WHERE WHAT IT READS IS OF BULK AT MOST 1048576: true; the input reads as it did. -/
def metaSameUptoRow : OpenClaim := { program := "ytoghojgajpfkkaadoor", sum := "359ef2e20eceedfae7ac27116924e0f662edcbebf67192c6ed7cccb26f171256", func := "regauge/regaugelaw09.MetaSame", spec := "metaSame", named := ["regauge/item.gens"], apart := false, laid := [("regauge/item.gens", laid_regauge_item_gens)], narrowed := true }
def MetaSameUptoSaid : Prop := metaSameUptoRow.holds Tryd.pinned (OpenSpec.upto metaSameSpec)

/-- 'regaugelaw09.MetaZeros', WHERE WHAT IT READS IS OF BULK AT MOST 1048576: true; the input reads as it did. -/
def metaZerosUptoRow : OpenClaim := { program := "ytoghojgajpfkkaadoor", sum := "359ef2e20eceedfae7ac27116924e0f662edcbebf67192c6ed7cccb26f171256", func := "regauge/regaugelaw09.MetaZeros", spec := "metaZeros", named := ["regauge/item.gens"], apart := false, laid := [("regauge/item.gens", laid_regauge_item_gens)], narrowed := true }
def MetaZerosUptoSaid : Prop := metaZerosUptoRow.holds Tryd.pinned (OpenSpec.upto metaZerosSpec)

/-- 'regaugelaw09.MetaNewer', WHERE WHAT IT READS IS OF BULK AT MOST 1048576: true; the input reads as it did. -/
def metaNewerUptoRow : OpenClaim := { program := "ytoghojgajpfkkaadoor", sum := "359ef2e20eceedfae7ac27116924e0f662edcbebf67192c6ed7cccb26f171256", func := "regauge/regaugelaw09.MetaNewer", spec := "metaNewer", named := ["regauge/item.gens"], apart := false, laid := [("regauge/item.gens", laid_regauge_item_gens)], narrowed := true }
def MetaNewerUptoSaid : Prop := metaNewerUptoRow.holds Tryd.pinned (OpenSpec.upto metaNewerSpec)

end Rows
end Go.Proofs.YtoghojgajpfkkaaDoor
