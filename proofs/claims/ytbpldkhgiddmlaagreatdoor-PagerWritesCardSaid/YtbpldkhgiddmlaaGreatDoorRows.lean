/-
  NARROWER THAN 'FOR EVERY INPUT', by the rows' own cells (each row's printed sentence says how): PagerWrites: laid · PagerReads: laid.
  DERIVED. THE GIVEN ROWS OF THIS SEAT. 2 by the template 'for every input the law returns true; each argument reads behind the call as it read before'; 0 by the template 'total and deterministic' (their statements: YtbpldkhgiddmlaaGreatDoorTotals.lean).
  GIVEN WITH THE SEED: the statements are not yours to turn. If you find one false, say at which input.
  Laid BY PROGRAM, IN A SANDBOX (cutbox-rows.mjs): the forced cells as the released guide's own fill.sh prints them over the translation 2362741f5289d367… (all of the seat's roots in one cut). By AI agents, Wed Nov 11 2026. No macro, syntax, notation, axiom, sorry.
-/
import Derived.Test.YtbpldkhgiddmlaaGreatDoorChecked
import GoSem.Claim
import GoSem.ClaimJoined
import GoSem.ClaimMapViews
import Derived.JoinedTies
import Derived.KernelRfl
namespace Go.Proofs.YtbpldkhgiddmlaaGreatDoor
/- THE CELL 'sum', in the pinned program and in every row, IS THE sha256 OF THE DUMP (.gsa) THAT YtbpldkhgiddmlaaGreatDoorProg.lean LOADS. Nothing in Lean hashes anything: it is a label: what it is worth is what the hold of that sum in a sandbox is worth. -/
noncomputable def Tryz.pinned : Pinned := { name := "ytbpldkhgiddmlaagreatdoor", sum := "2362741f5289d367ba87b4c6452421d2fc16d3cc9b0c505a50f093c2b130ec0a", checked := Tryz.checked }
namespace Rows
def none {H : Type} : Left H := { results := [], args := [] }

/- WHAT THE LISTED PACKAGE-LEVEL VARIABLES READ AS WHEN THE CALL BEGINS. Each datum BY PROGRAM (the guide's laid-datum.mjs) off the statement by which the dump's own 'gosem.cut.vars' lays the variable. In a bare row this is a premise. The card (YtbpldkhgiddmlaaGreatDoorCards.lean) ties it to the program's text. -/
def laid_regauge_item_gens {H : Type} : DataW H := .agg [.agg [.lit (.int .i64 0), .lit (.int .i64 0), .lit (.int .i64 0), .lit (.int .i64 0)], .agg [.lit (.int .i64 16), .lit (.int .i64 400), .lit (.int .i64 4), .lit (.int .i64 8)], .agg [.lit (.int .i64 20), .lit (.int .i64 800), .lit (.int .i64 8), .lit (.int .i64 16)], .agg [.lit (.int .i64 24), .lit (.int .i64 1600), .lit (.int .i64 8), .lit (.int .i64 16)]]

/-- 'regaugelaw12.PagerWrites': WHATEVER THE INPUT: true; the input reads as it did. -/
def pagerWritesSpec : ChangeSpec := { name := "pagerWrites", fn := fun _ => fun
  | [d1, d2, d3] => { results := [.lit (.bool true)], args := [d1, d2, d3] }
  | _ => none }
def pagerWritesRow : OpenClaim := { program := "ytbpldkhgiddmlaagreatdoor", sum := "2362741f5289d367ba87b4c6452421d2fc16d3cc9b0c505a50f093c2b130ec0a", func := "regauge/regaugelaw12.PagerWrites", spec := "pagerWrites", inPlace := ["internal/bytealg.MakeNoZero"], named := ["regauge/item.gens"], apart := false, laid := [("regauge/item.gens", laid_regauge_item_gens)] }
def PagerWritesSaid : Prop := pagerWritesRow.holds Tryz.pinned (OpenSpec.ofChange pagerWritesSpec)

/-- ITS FALSE NEIGHBOUR: 'it returns false'. Refute it at one input. -/
def pagerWritesWrong : ChangeSpec := { name := "pagerWrites", fn := fun _ => fun
  | [d1, d2, d3] => { results := [.lit (.bool false)], args := [d1, d2, d3] }
  | _ => none }
def PagerWritesWrongFalsely : Prop := pagerWritesRow.holds Tryz.pinned (OpenSpec.ofChange pagerWritesWrong)

/-- 'regaugelaw12.PagerReads': WHATEVER THE INPUT: true; the input reads as it did. -/
def pagerReadsSpec : ChangeSpec := { name := "pagerReads", fn := fun _ => fun
  | [d1, d2, d3] => { results := [.lit (.bool true)], args := [d1, d2, d3] }
  | _ => none }
def pagerReadsRow : OpenClaim := { program := "ytbpldkhgiddmlaagreatdoor", sum := "2362741f5289d367ba87b4c6452421d2fc16d3cc9b0c505a50f093c2b130ec0a", func := "regauge/regaugelaw12.PagerReads", spec := "pagerReads", inPlace := ["internal/bytealg.MakeNoZero"], named := ["regauge/item.gens"], apart := false, laid := [("regauge/item.gens", laid_regauge_item_gens)] }
def PagerReadsSaid : Prop := pagerReadsRow.holds Tryz.pinned (OpenSpec.ofChange pagerReadsSpec)

/-- ITS FALSE NEIGHBOUR: 'it returns false'. Refute it at one input. -/
def pagerReadsWrong : ChangeSpec := { name := "pagerReads", fn := fun _ => fun
  | [d1, d2, d3] => { results := [.lit (.bool false)], args := [d1, d2, d3] }
  | _ => none }
def PagerReadsWrongFalsely : Prop := pagerReadsRow.holds Tryz.pinned (OpenSpec.ofChange pagerReadsWrong)

/- THE SECOND FORM. 'bulk': how many values and letters a reading holds, each counted each time it is reached (what is shared counts as often as it is met; a slice's spare places count too). A statement '..UptoSaid' is the law's where the arguments, and the package variables that the reading takes, are together of bulk at most 1048576: NARROWER than '..Said'. Prove '..Said' where nothing that the law and all that it calls make is longer than what came in: it says more and counts as full. Else prove '..UptoSaid'. A law counts once. -/
mutual
def uptoBulk {H : Type} : DataW H → Nat
  | .lit (.string bytes) => bytes.length + 1
  | .lit _ => 1
  | .nil => 1
  | .ptr d => uptoBulk d + 1
  | .slice elems spare => uptoBulkAll elems + uptoBulkAll spare + 1
  | .agg parts => uptoBulkAll parts + 1
  | .iface _ d => uptoBulk d + 1
  | .map entries => uptoBulkEntries entries + 1
  | .held _ => 1
def uptoBulkAll {H : Type} : List (DataW H) → Nat
  | [] => 0
  | d :: r => uptoBulk d + uptoBulkAll r
def uptoBulkEntries {H : Type} : List (Lit × DataW H) → Nat
  | [] => 0
  | x :: r => uptoBulkEntry x + uptoBulkEntries r
def uptoBulkEntry {H : Type} : Lit × DataW H → Nat
  | (.string bytes, d) => bytes.length + uptoBulk d + 1
  | (_, d) => uptoBulk d + 1
 end
def uptoSmall : (H : Type) → List (DataW H) → Bool := fun _ ds => decide (uptoBulkAll ds ≤ 1048576)
def OpenSpec.upto (s : _root_.Go.ChangeSpec) : _root_.Go.OpenSpec := { _root_.Go.OpenSpec.ofChange s with cond := some uptoSmall }

/-- 'regaugelaw12.PagerWrites', WHERE WHAT IT READS IS OF BULK AT MOST 1048576: true; the input reads as it did. -/
def pagerWritesUptoRow : OpenClaim := { program := "ytbpldkhgiddmlaagreatdoor", sum := "2362741f5289d367ba87b4c6452421d2fc16d3cc9b0c505a50f093c2b130ec0a", func := "regauge/regaugelaw12.PagerWrites", spec := "pagerWrites", inPlace := ["internal/bytealg.MakeNoZero"], named := ["regauge/item.gens"], apart := false, laid := [("regauge/item.gens", laid_regauge_item_gens)], narrowed := true }
def PagerWritesUptoSaid : Prop := pagerWritesUptoRow.holds Tryz.pinned (OpenSpec.upto pagerWritesSpec)

/-- 'regaugelaw12.PagerReads', WHERE WHAT IT READS IS OF BULK AT MOST 1048576: true; the input reads as it did. -/
def pagerReadsUptoRow : OpenClaim := { program := "ytbpldkhgiddmlaagreatdoor", sum := "2362741f5289d367ba87b4c6452421d2fc16d3cc9b0c505a50f093c2b130ec0a", func := "regauge/regaugelaw12.PagerReads", spec := "pagerReads", inPlace := ["internal/bytealg.MakeNoZero"], named := ["regauge/item.gens"], apart := false, laid := [("regauge/item.gens", laid_regauge_item_gens)], narrowed := true }
def PagerReadsUptoSaid : Prop := pagerReadsUptoRow.holds Tryz.pinned (OpenSpec.upto pagerReadsSpec)

end Rows
end Go.Proofs.YtbpldkhgiddmlaaGreatDoor
