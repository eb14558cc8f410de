/-
  NARROWER THAN 'FOR EVERY INPUT', by the rows' own cells (each row's printed sentence says how): PagerFull: laid · PagerRight: laid · PagerTwo: laid · PagerAgain: laid.
  DERIVED. THE GIVEN ROWS OF THIS SEAT. 4 by the template 'for every input the law returns true; each argument reads behind the call as it read before'; 0 by the template 'total and deterministic' (their statements: YtopaponemjaenaaDoorTotals.lean).
  GIVEN WITH THE SEED: the statements are not yours to turn. If you find one false, say at which input.
  Laid BY PROGRAM, IN A SANDBOX (cutbox-rows.mjs): the forced cells as the released guide's own fill.sh prints them over the translation 5dd1b9538310f7ac… (all of the seat's roots in one cut). By AI agents, Wed Nov 11 2026. No macro, syntax, notation, axiom, sorry.
-/
import Derived.Test.YtopaponemjaenaaDoorChecked
import GoSem.Claim
import GoSem.ClaimJoined
import GoSem.ClaimMapViews
import Derived.JoinedTies
import Derived.KernelRfl
namespace Go.Proofs.YtopaponemjaenaaDoor
/- THE CELL 'sum', in the pinned program and in every row, IS THE sha256 OF THE DUMP (.gsa) THAT YtopaponemjaenaaDoorProg.lean LOADS. Nothing in Lean hashes anything: it is a label: what it is worth is what the hold of that sum in a sandbox is worth. -/
noncomputable def Tryd.pinned : Pinned := { name := "ytopaponemjaenaadoor", sum := "5dd1b9538310f7ac140e81994c769ab32a9c6e3de08ffd65ac68f15146c26d6c", checked := Tryd.checked }
namespace Rows
def none {H : Type} : Left H := { results := [], args := [] }

/- WHAT THE LISTED PACKAGE-LEVEL VARIABLES READ AS WHEN THE CALL BEGINS. Each datum BY PROGRAM (the guide's laid-datum.mjs) off the statement by which the dump's own 'gosem.cut.vars' lays the variable. In a bare row this is a premise. The card (YtopaponemjaenaaDoorCards.lean) ties it to the program's text. -/
def laid_regauge_item_gens {H : Type} : DataW H := .agg [.agg [.lit (.int .i64 0), .lit (.int .i64 0), .lit (.int .i64 0), .lit (.int .i64 0)], .agg [.lit (.int .i64 16), .lit (.int .i64 400), .lit (.int .i64 4), .lit (.int .i64 8)], .agg [.lit (.int .i64 20), .lit (.int .i64 800), .lit (.int .i64 8), .lit (.int .i64 16)], .agg [.lit (.int .i64 24), .lit (.int .i64 1600), .lit (.int .i64 8), .lit (.int .i64 16)]]

/-- 'regaugelaw12.PagerFull': WHATEVER THE INPUT: true; the input reads as it did. -/
def pagerFullSpec : ChangeSpec := { name := "pagerFull", fn := fun _ => fun
  | [d1, d2, d3] => { results := [.lit (.bool true)], args := [d1, d2, d3] }
  | _ => none }
def pagerFullRow : OpenClaim := { program := "ytopaponemjaenaadoor", sum := "5dd1b9538310f7ac140e81994c769ab32a9c6e3de08ffd65ac68f15146c26d6c", func := "regauge/regaugelaw12.PagerFull", spec := "pagerFull", inPlace := ["internal/bytealg.MakeNoZero"], named := ["regauge/item.gens"], apart := false, laid := [("regauge/item.gens", laid_regauge_item_gens)] }
def PagerFullSaid : Prop := pagerFullRow.holds Tryd.pinned (OpenSpec.ofChange pagerFullSpec)

/-- ITS FALSE NEIGHBOUR: 'it returns false'. Refute it at one input. -/
def pagerFullWrong : ChangeSpec := { name := "pagerFull", fn := fun _ => fun
  | [d1, d2, d3] => { results := [.lit (.bool false)], args := [d1, d2, d3] }
  | _ => none }
def PagerFullWrongFalsely : Prop := pagerFullRow.holds Tryd.pinned (OpenSpec.ofChange pagerFullWrong)

/-- 'regaugelaw12.PagerRight': WHATEVER THE INPUT: true; the input reads as it did. -/
def pagerRightSpec : ChangeSpec := { name := "pagerRight", fn := fun _ => fun
  | [d1, d2, d3] => { results := [.lit (.bool true)], args := [d1, d2, d3] }
  | _ => none }
def pagerRightRow : OpenClaim := { program := "ytopaponemjaenaadoor", sum := "5dd1b9538310f7ac140e81994c769ab32a9c6e3de08ffd65ac68f15146c26d6c", func := "regauge/regaugelaw12.PagerRight", spec := "pagerRight", inPlace := ["internal/bytealg.MakeNoZero"], named := ["regauge/item.gens"], apart := false, laid := [("regauge/item.gens", laid_regauge_item_gens)] }
def PagerRightSaid : Prop := pagerRightRow.holds Tryd.pinned (OpenSpec.ofChange pagerRightSpec)

/-- ITS FALSE NEIGHBOUR: 'it returns false'. Refute it at one input. -/
def pagerRightWrong : ChangeSpec := { name := "pagerRight", fn := fun _ => fun
  | [d1, d2, d3] => { results := [.lit (.bool false)], args := [d1, d2, d3] }
  | _ => none }
def PagerRightWrongFalsely : Prop := pagerRightRow.holds Tryd.pinned (OpenSpec.ofChange pagerRightWrong)

/-- 'regaugelaw12.PagerTwo': WHATEVER THE INPUT: true; the input reads as it did. -/
def pagerTwoSpec : ChangeSpec := { name := "pagerTwo", fn := fun _ => fun
  | [d1, d2, d3] => { results := [.lit (.bool true)], args := [d1, d2, d3] }
  | _ => none }
def pagerTwoRow : OpenClaim := { program := "ytopaponemjaenaadoor", sum := "5dd1b9538310f7ac140e81994c769ab32a9c6e3de08ffd65ac68f15146c26d6c", func := "regauge/regaugelaw12.PagerTwo", spec := "pagerTwo", inPlace := ["internal/bytealg.MakeNoZero"], named := ["regauge/item.gens"], apart := false, laid := [("regauge/item.gens", laid_regauge_item_gens)] }
def PagerTwoSaid : Prop := pagerTwoRow.holds Tryd.pinned (OpenSpec.ofChange pagerTwoSpec)

/-- ITS FALSE NEIGHBOUR: 'it returns false'. Refute it at one input. -/
def pagerTwoWrong : ChangeSpec := { name := "pagerTwo", fn := fun _ => fun
  | [d1, d2, d3] => { results := [.lit (.bool false)], args := [d1, d2, d3] }
  | _ => none }
def PagerTwoWrongFalsely : Prop := pagerTwoRow.holds Tryd.pinned (OpenSpec.ofChange pagerTwoWrong)

/-- 'regaugelaw12.PagerAgain': WHATEVER THE INPUT: true; the input reads as it did. -/
def pagerAgainSpec : ChangeSpec := { name := "pagerAgain", fn := fun _ => fun
  | [d1, d2, d3] => { results := [.lit (.bool true)], args := [d1, d2, d3] }
  | _ => none }
def pagerAgainRow : OpenClaim := { program := "ytopaponemjaenaadoor", sum := "5dd1b9538310f7ac140e81994c769ab32a9c6e3de08ffd65ac68f15146c26d6c", func := "regauge/regaugelaw12.PagerAgain", spec := "pagerAgain", inPlace := ["internal/bytealg.MakeNoZero"], named := ["regauge/item.gens"], apart := false, laid := [("regauge/item.gens", laid_regauge_item_gens)] }
def PagerAgainSaid : Prop := pagerAgainRow.holds Tryd.pinned (OpenSpec.ofChange pagerAgainSpec)

/-- ITS FALSE NEIGHBOUR: 'it returns false'. Refute it at one input. -/
def pagerAgainWrong : ChangeSpec := { name := "pagerAgain", fn := fun _ => fun
  | [d1, d2, d3] => { results := [.lit (.bool false)], args := [d1, d2, d3] }
  | _ => none }
def PagerAgainWrongFalsely : Prop := pagerAgainRow.holds Tryd.pinned (OpenSpec.ofChange pagerAgainWrong)

/- THE SECOND FORM. 'bulk': how many values and letters a reading holds, each counted each time it is reached (what is shared counts as often as it is met; a slice's spare places count too). A statement '..UptoSaid' is the law's where the arguments, and the package variables that the reading takes, are together of bulk at most 1048576: NARROWER than '..Said'. Prove '..Said' where nothing that the law and all that it calls make is longer than what came in: it says more and counts as full. Else prove '..UptoSaid'. A law counts once. -/
mutual
def uptoBulk {H : Type} : DataW H → Nat
  | .lit (.string bytes) => bytes.length + 1
  | .lit _ => 1
  | .nil => 1
  | .ptr d => uptoBulk d + 1
  | .slice elems spare => uptoBulkAll elems + uptoBulkAll spare + 1
  | .agg parts => uptoBulkAll parts + 1
  | .iface _ d => uptoBulk d + 1
  | .map entries => uptoBulkEntries entries + 1
  | .held _ => 1
def uptoBulkAll {H : Type} : List (DataW H) → Nat
  | [] => 0
  | d :: r => uptoBulk d + uptoBulkAll r
def uptoBulkEntries {H : Type} : List (Lit × DataW H) → Nat
  | [] => 0
  | x :: r => uptoBulkEntry x + uptoBulkEntries r
def uptoBulkEntry {H : Type} : Lit × DataW H → Nat
  | (.string bytes, d) => bytes.length + uptoBulk d + 1
  | (_, d) => uptoBulk d + 1
 end
def uptoSmall : (H : Type) → List (DataW H) → Bool := fun _ ds => decide (uptoBulkAll ds ≤ 1048576)
def OpenSpec.upto (s : _root_.Go.ChangeSpec) : _root_.Go.OpenSpec := { _root_.Go.OpenSpec.ofChange s with cond := some uptoSmall }

/-- 'regaugelaw12.PagerFull', WHERE WHAT IT READS IS OF BULK AT MOST 1048576: true; the input reads as it did. -/
def pagerFullUptoRow : OpenClaim := { program := "ytopaponemjaenaadoor", sum := "5dd1b9538310f7ac140e81994c769ab32a9c6e3de08ffd65ac68f15146c26d6c", func := "regauge/regaugelaw12.PagerFull", spec := "pagerFull", inPlace := ["internal/bytealg.MakeNoZero"], named := ["regauge/item.gens"], apart := false, laid := [("regauge/item.gens", laid_regauge_item_gens)], narrowed := true }
def PagerFullUptoSaid : Prop := pagerFullUptoRow.holds Tryd.pinned (OpenSpec.upto pagerFullSpec)

/-- 'regaugelaw12.PagerRight', WHERE WHAT IT READS IS OF BULK AT MOST 1048576: true; the input reads as it did. -/
def pagerRightUptoRow : OpenClaim := { program := "ytopaponemjaenaadoor", sum := "5dd1b9538310f7ac140e81994c769ab32a9c6e3de08ffd65ac68f15146c26d6c", func := "regauge/regaugelaw12.PagerRight", spec := "pagerRight", inPlace := ["internal/bytealg.MakeNoZero"], named := ["regauge/item.gens"], apart := false, laid := [("regauge/item.gens", laid_regauge_item_gens)], narrowed := true }
def PagerRightUptoSaid : Prop := pagerRightUptoRow.holds Tryd.pinned (OpenSpec.upto pagerRightSpec)

/-- 'regaugelaw12.PagerTwo', WHERE WHAT IT READS IS OF BULK AT MOST 1048576: true; the input reads as it did. -/
def pagerTwoUptoRow : OpenClaim := { program := "ytopaponemjaenaadoor", sum := "5dd1b9538310f7ac140e81994c769ab32a9c6e3de08ffd65ac68f15146c26d6c", func := "regauge/regaugelaw12.PagerTwo", spec := "pagerTwo", inPlace := ["internal/bytealg.MakeNoZero"], named := ["regauge/item.gens"], apart := false, laid := [("regauge/item.gens", laid_regauge_item_gens)], narrowed := true }
def PagerTwoUptoSaid : Prop := pagerTwoUptoRow.holds Tryd.pinned (OpenSpec.upto pagerTwoSpec)

/-- 'regaugelaw12.PagerAgain', WHERE WHAT IT READS IS OF BULK AT MOST 1048576: true; the input reads as it did. -/
def pagerAgainUptoRow : OpenClaim := { program := "ytopaponemjaenaadoor", sum := "5dd1b9538310f7ac140e81994c769ab32a9c6e3de08ffd65ac68f15146c26d6c", func := "regauge/regaugelaw12.PagerAgain", spec := "pagerAgain", inPlace := ["internal/bytealg.MakeNoZero"], named := ["regauge/item.gens"], apart := false, laid := [("regauge/item.gens", laid_regauge_item_gens)], narrowed := true }
def PagerAgainUptoSaid : Prop := pagerAgainUptoRow.holds Tryd.pinned (OpenSpec.upto pagerAgainSpec)

end Rows
end Go.Proofs.YtopaponemjaenaaDoor
