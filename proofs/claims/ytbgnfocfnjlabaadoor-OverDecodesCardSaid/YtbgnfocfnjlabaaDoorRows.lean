/-
  NARROWER THAN 'FOR EVERY INPUT', by the rows' own cells (each row's printed sentence says how): OverMany: laid · OverDecodes: laid · OverTorn: laid · OverApart: laid.
  DERIVED. THE GIVEN ROWS OF THIS SEAT. 4 by the template 'for every input the law returns true; each argument reads behind the call as it read before'; 0 by the template 'total and deterministic' (their statements: YtbgnfocfnjlabaaDoorTotals.lean).
  GIVEN WITH THE SEED: the statements are not yours to turn. If you find one false, say at which input.
  Laid BY PROGRAM, IN A SANDBOX (cutbox-rows.mjs): the forced cells as the released guide's own fill.sh prints them over the translation 3ac6b22de0033aca… (all of the seat's roots in one cut). By AI agents, Wed Nov 11 2026. No macro, syntax, notation, axiom, sorry.
-/
import Derived.Test.YtbgnfocfnjlabaaDoorChecked
import GoSem.Claim
import GoSem.ClaimJoined
import GoSem.ClaimMapViews
import Derived.JoinedTies
import Derived.KernelRfl
namespace Go.Proofs.YtbgnfocfnjlabaaDoor
/- THE CELL 'sum', in the pinned program and in every row, IS THE sha256 OF THE DUMP (.gsa) THAT YtbgnfocfnjlabaaDoorProg.lean LOADS. Nothing in Lean hashes anything: it is a label: what it is worth is what the hold of that sum in a sandbox is worth. -/
noncomputable def Tryd.pinned : Pinned := { name := "ytbgnfocfnjlabaadoor", sum := "3ac6b22de0033aca58c958bb796987f5bb5a75b89785ae534c5ae2232af08909", checked := Tryd.checked }
namespace Rows
def none {H : Type} : Left H := { results := [], args := [] }

/- WHAT THE LISTED PACKAGE-LEVEL VARIABLES READ AS WHEN THE CALL BEGINS. Each datum BY PROGRAM (the guide's laid-datum.mjs) off the statement by which the dump's own 'gosem.cut.vars' lays the variable. In a bare row this is a premise. The card (YtbgnfocfnjlabaaDoorCards.lean) ties it to the program's text. -/
def laid_regauge_item_gens {H : Type} : DataW H := .agg [.agg [.lit (.int .i64 0), .lit (.int .i64 0), .lit (.int .i64 0), .lit (.int .i64 0)], .agg [.lit (.int .i64 16), .lit (.int .i64 400), .lit (.int .i64 4), .lit (.int .i64 8)], .agg [.lit (.int .i64 20), .lit (.int .i64 800), .lit (.int .i64 8), .lit (.int .i64 16)], .agg [.lit (.int .i64 24), .lit (.int .i64 1600), .lit (.int .i64 8), .lit (.int .i64 16)]]

/-- 'regaugelaw08.OverMany': WHATEVER THE INPUT: true; the input reads as it did. -/
def overManySpec : ChangeSpec := { name := "overMany", fn := fun _ => fun
  | [d1, d2] => { results := [.lit (.bool true)], args := [d1, d2] }
  | _ => none }
def overManyRow : OpenClaim := { program := "ytbgnfocfnjlabaadoor", sum := "3ac6b22de0033aca58c958bb796987f5bb5a75b89785ae534c5ae2232af08909", func := "regauge/regaugelaw08.OverMany", spec := "overMany", inPlace := ["internal/bytealg.MakeNoZero"], unfollowed := true, recurses := true, named := ["regauge/item.gens"], apart := false, laid := [("regauge/item.gens", laid_regauge_item_gens)] }
def OverManySaid : Prop := overManyRow.holds Tryd.pinned (OpenSpec.ofChange overManySpec)

/-- ITS FALSE NEIGHBOUR: 'it returns false'. Refute it at one input. -/
def overManyWrong : ChangeSpec := { name := "overMany", fn := fun _ => fun
  | [d1, d2] => { results := [.lit (.bool false)], args := [d1, d2] }
  | _ => none }
def OverManyWrongFalsely : Prop := overManyRow.holds Tryd.pinned (OpenSpec.ofChange overManyWrong)

/-- 'regaugelaw08.OverDecodes': WHATEVER THE INPUT: true; the input reads as it did. -/
def overDecodesSpec : ChangeSpec := { name := "overDecodes", fn := fun _ => fun
  | [d1, d2, d3] => { results := [.lit (.bool true)], args := [d1, d2, d3] }
  | _ => none }
def overDecodesRow : OpenClaim := { program := "ytbgnfocfnjlabaadoor", sum := "3ac6b22de0033aca58c958bb796987f5bb5a75b89785ae534c5ae2232af08909", func := "regauge/regaugelaw08.OverDecodes", spec := "overDecodes", inPlace := ["internal/bytealg.MakeNoZero"], unfollowed := true, recurses := true, named := ["regauge/item.gens"], apart := false, laid := [("regauge/item.gens", laid_regauge_item_gens)] }
def OverDecodesSaid : Prop := overDecodesRow.holds Tryd.pinned (OpenSpec.ofChange overDecodesSpec)

/-- ITS FALSE NEIGHBOUR: 'it returns false'. Refute it at one input. -/
def overDecodesWrong : ChangeSpec := { name := "overDecodes", fn := fun _ => fun
  | [d1, d2, d3] => { results := [.lit (.bool false)], args := [d1, d2, d3] }
  | _ => none }
def OverDecodesWrongFalsely : Prop := overDecodesRow.holds Tryd.pinned (OpenSpec.ofChange overDecodesWrong)

/-- 'regaugelaw08.OverTorn': WHATEVER THE INPUT: true; the input reads as it did. -/
def overTornSpec : ChangeSpec := { name := "overTorn", fn := fun _ => fun
  | [d1, d2, d3] => { results := [.lit (.bool true)], args := [d1, d2, d3] }
  | _ => none }
def overTornRow : OpenClaim := { program := "ytbgnfocfnjlabaadoor", sum := "3ac6b22de0033aca58c958bb796987f5bb5a75b89785ae534c5ae2232af08909", func := "regauge/regaugelaw08.OverTorn", spec := "overTorn", inPlace := ["internal/bytealg.MakeNoZero"], unfollowed := true, recurses := true, named := ["regauge/item.gens"], apart := false, laid := [("regauge/item.gens", laid_regauge_item_gens)] }
def OverTornSaid : Prop := overTornRow.holds Tryd.pinned (OpenSpec.ofChange overTornSpec)

/-- ITS FALSE NEIGHBOUR: 'it returns false'. Refute it at one input. -/
def overTornWrong : ChangeSpec := { name := "overTorn", fn := fun _ => fun
  | [d1, d2, d3] => { results := [.lit (.bool false)], args := [d1, d2, d3] }
  | _ => none }
def OverTornWrongFalsely : Prop := overTornRow.holds Tryd.pinned (OpenSpec.ofChange overTornWrong)

/-- 'regaugelaw08.OverApart': WHATEVER THE INPUT: true; the input reads as it did. -/
def overApartSpec : ChangeSpec := { name := "overApart", fn := fun _ => fun
  | [d1, d2, d3] => { results := [.lit (.bool true)], args := [d1, d2, d3] }
  | _ => none }
def overApartRow : OpenClaim := { program := "ytbgnfocfnjlabaadoor", sum := "3ac6b22de0033aca58c958bb796987f5bb5a75b89785ae534c5ae2232af08909", func := "regauge/regaugelaw08.OverApart", spec := "overApart", inPlace := ["internal/bytealg.MakeNoZero"], unfollowed := true, recurses := true, named := ["regauge/item.gens"], apart := false, laid := [("regauge/item.gens", laid_regauge_item_gens)] }
def OverApartSaid : Prop := overApartRow.holds Tryd.pinned (OpenSpec.ofChange overApartSpec)

/-- ITS FALSE NEIGHBOUR: 'it returns false'. Refute it at one input. -/
def overApartWrong : ChangeSpec := { name := "overApart", fn := fun _ => fun
  | [d1, d2, d3] => { results := [.lit (.bool false)], args := [d1, d2, d3] }
  | _ => none }
def OverApartWrongFalsely : Prop := overApartRow.holds Tryd.pinned (OpenSpec.ofChange overApartWrong)

/- THE SECOND FORM. 'bulk': how many values and letters a reading holds, each counted each time it is reached (what is shared counts as often as it is met; a slice's spare places count too). A statement '..UptoSaid' is the law's where the arguments, and the package variables that the reading takes, are together of bulk at most 1048576: NARROWER than '..Said'. Prove '..Said' where nothing that the law and all that it calls make is longer than what came in: it says more and counts as full. Else prove '..UptoSaid'. A law counts once. -/
mutual
def uptoBulk {H : Type} : DataW H → Nat
  | .lit (.string bytes) => bytes.length + 1
  | .lit _ => 1
  | .nil => 1
  | .ptr d => uptoBulk d + 1
  | .slice elems spare => uptoBulkAll elems + uptoBulkAll spare + 1
  | .agg parts => uptoBulkAll parts + 1
  | .iface _ d => uptoBulk d + 1
  | .map entries => uptoBulkEntries entries + 1
  | .held _ => 1
def uptoBulkAll {H : Type} : List (DataW H) → Nat
  | [] => 0
  | d :: r => uptoBulk d + uptoBulkAll r
def uptoBulkEntries {H : Type} : List (Lit × DataW H) → Nat
  | [] => 0
  | x :: r => uptoBulkEntry x + uptoBulkEntries r
def uptoBulkEntry {H : Type} : Lit × DataW H → Nat
  | (.string bytes, d) => bytes.length + uptoBulk d + 1
  | (_, d) => uptoBulk d + 1
 end
def uptoSmall : (H : Type) → List (DataW H) → Bool := fun _ ds => decide (uptoBulkAll ds ≤ 1048576)
def OpenSpec.upto (s : _root_.Go.ChangeSpec) : _root_.Go.OpenSpec := { _root_.Go.OpenSpec.ofChange s with cond := some uptoSmall }

/-- 'regaugelaw08.OverMany', WHERE WHAT IT READS IS OF BULK AT MOST 1048576: true; the input reads as it did. -/
def overManyUptoRow : OpenClaim := { program := "ytbgnfocfnjlabaadoor", sum := "3ac6b22de0033aca58c958bb796987f5bb5a75b89785ae534c5ae2232af08909", func := "regauge/regaugelaw08.OverMany", spec := "overMany", inPlace := ["internal/bytealg.MakeNoZero"], unfollowed := true, recurses := true, named := ["regauge/item.gens"], apart := false, laid := [("regauge/item.gens", laid_regauge_item_gens)], narrowed := true }
def OverManyUptoSaid : Prop := overManyUptoRow.holds Tryd.pinned (OpenSpec.upto overManySpec)

/-- 'regaugelaw08.OverDecodes', WHERE WHAT IT READS IS OF BULK AT MOST 1048576: true; the input reads as it did. -/
def overDecodesUptoRow : OpenClaim := { program := "ytbgnfocfnjlabaadoor", sum := "3ac6b22de0033aca58c958bb796987f5bb5a75b89785ae534c5ae2232af08909", func := "regauge/regaugelaw08.OverDecodes", spec := "overDecodes", inPlace := ["internal/bytealg.MakeNoZero"], unfollowed := true, recurses := true, named := ["regauge/item.gens"], apart := false, laid := [("regauge/item.gens", laid_regauge_item_gens)], narrowed := true }
def OverDecodesUptoSaid : Prop := overDecodesUptoRow.holds Tryd.pinned (OpenSpec.upto overDecodesSpec)

/-- 'regaugelaw08.OverTorn', WHERE WHAT IT READS IS OF BULK AT MOST 1048576: true; the input reads as it did. -/
def overTornUptoRow : OpenClaim := { program := "ytbgnfocfnjlabaadoor", sum := "3ac6b22de0033aca58c958bb796987f5bb5a75b89785ae534c5ae2232af08909", func := "regauge/regaugelaw08.OverTorn", spec := "overTorn", inPlace := ["internal/bytealg.MakeNoZero"], unfollowed := true, recurses := true, named := ["regauge/item.gens"], apart := false, laid := [("regauge/item.gens", laid_regauge_item_gens)], narrowed := true }
def OverTornUptoSaid : Prop := overTornUptoRow.holds Tryd.pinned (OpenSpec.upto overTornSpec)

/-- 'regaugelaw08.OverApart', WHERE WHAT IT READS IS OF BULK AT MOST 1048576: true; the input reads as it did. -/
def overApartUptoRow : OpenClaim := { program := "ytbgnfocfnjlabaadoor", sum := "3ac6b22de0033aca58c958bb796987f5bb5a75b89785ae534c5ae2232af08909", func := "regauge/regaugelaw08.OverApart", spec := "overApart", inPlace := ["internal/bytealg.MakeNoZero"], unfollowed := true, recurses := true, named := ["regauge/item.gens"], apart := false, laid := [("regauge/item.gens", laid_regauge_item_gens)], narrowed := true }
def OverApartUptoSaid : Prop := overApartUptoRow.holds Tryd.pinned (OpenSpec.upto overApartSpec)

end Rows
end Go.Proofs.YtbgnfocfnjlabaaDoor
