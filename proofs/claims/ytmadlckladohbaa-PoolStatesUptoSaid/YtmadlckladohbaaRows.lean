/-
  No cell of these rows narrows 'for every input' (looked for: loops, veiled, ifaces, maps, wideKeys, modest, calm, conditions, laid).
  DERIVED. THE GIVEN ROWS OF THIS SEAT. 4 by the template 'for every input the law returns true; each argument reads behind the call as it read before'; 0 by the template 'total and deterministic' (their statements: YtmadlckladohbaaTotals.lean).
  GIVEN WITH THE SEED: the statements are not yours to turn. If you find one false, say at which input.
  Laid BY PROGRAM, IN A SANDBOX (cutbox-rows.mjs): the forced cells as the released guide's own fill.sh prints them over the translation 6d3846830ed257e2… (all of the seat's roots in one cut). By AI agents, Wed Nov 11 2026. No macro, syntax, notation, axiom, sorry.
-/
import Derived.Test.YtmadlckladohbaaChecked
import GoSem.Claim
import GoSem.ClaimJoined
import GoSem.ClaimMapViews
import Derived.JoinedTies
import Derived.KernelRfl
namespace Go.Proofs.Ytmadlckladohbaa
/- THE CELL 'sum', in the pinned program and in every row, IS THE sha256 OF THE DUMP (.gsa) THAT YtmadlckladohbaaProg.lean LOADS. Nothing in Lean hashes anything: it is a label: what it is worth is what the hold of that sum in a sandbox is worth. -/
noncomputable def Try.pinned : Pinned := { name := "ytmadlckladohbaa", sum := "6d3846830ed257e214d582a2677a74a115abb09633485be8a3ff039ee93a66b4", checked := Try.checked }
namespace Rows
def none {H : Type} : Left H := { results := [], args := [] }

/-- 'regaugelaw11.PoolSettles': WHATEVER THE INPUT: true; the input reads as it did. -/
def poolSettlesSpec : ChangeSpec := { name := "poolSettles", fn := fun _ => fun
  | [d1, d2, d3] => { results := [.lit (.bool true)], args := [d1, d2, d3] }
  | _ => none }
def poolSettlesRow : OpenClaim := { program := "ytmadlckladohbaa", sum := "6d3846830ed257e214d582a2677a74a115abb09633485be8a3ff039ee93a66b4", func := "regauge/regaugelaw11.PoolSettles", spec := "poolSettles", inPlace := ["slices.overlaps[regauge/run.Run]", "maps.clone"], unfollowed := true, recurses := true, apart := false }
def PoolSettlesSaid : Prop := poolSettlesRow.holds Try.pinned (OpenSpec.ofChange poolSettlesSpec)

/-- ITS FALSE NEIGHBOUR: 'it returns false'. Refute it at one input. -/
def poolSettlesWrong : ChangeSpec := { name := "poolSettles", fn := fun _ => fun
  | [d1, d2, d3] => { results := [.lit (.bool false)], args := [d1, d2, d3] }
  | _ => none }
def PoolSettlesWrongFalsely : Prop := poolSettlesRow.holds Try.pinned (OpenSpec.ofChange poolSettlesWrong)

/-- 'regaugelaw11.PoolStates': WHATEVER THE INPUT: true; the input reads as it did. -/
def poolStatesSpec : ChangeSpec := { name := "poolStates", fn := fun _ => fun
  | [d1, d2, d3] => { results := [.lit (.bool true)], args := [d1, d2, d3] }
  | _ => none }
def poolStatesRow : OpenClaim := { program := "ytmadlckladohbaa", sum := "6d3846830ed257e214d582a2677a74a115abb09633485be8a3ff039ee93a66b4", func := "regauge/regaugelaw11.PoolStates", spec := "poolStates", inPlace := ["slices.overlaps[regauge/run.Run]", "maps.clone"], unfollowed := true, recurses := true, apart := false }
def PoolStatesSaid : Prop := poolStatesRow.holds Try.pinned (OpenSpec.ofChange poolStatesSpec)

/-- ITS FALSE NEIGHBOUR: 'it returns false'. Refute it at one input. -/
def poolStatesWrong : ChangeSpec := { name := "poolStates", fn := fun _ => fun
  | [d1, d2, d3] => { results := [.lit (.bool false)], args := [d1, d2, d3] }
  | _ => none }
def PoolStatesWrongFalsely : Prop := poolStatesRow.holds Try.pinned (OpenSpec.ofChange poolStatesWrong)

/-- 'regaugelaw11.PoolGrows': WHATEVER THE INPUT: true; the input reads as it did. -/
def poolGrowsSpec : ChangeSpec := { name := "poolGrows", fn := fun _ => fun
  | [d1, d2, d3] => { results := [.lit (.bool true)], args := [d1, d2, d3] }
  | _ => none }
def poolGrowsRow : OpenClaim := { program := "ytmadlckladohbaa", sum := "6d3846830ed257e214d582a2677a74a115abb09633485be8a3ff039ee93a66b4", func := "regauge/regaugelaw11.PoolGrows", spec := "poolGrows", inPlace := ["slices.overlaps[regauge/run.Run]", "maps.clone"], unfollowed := true, recurses := true, apart := false }
def PoolGrowsSaid : Prop := poolGrowsRow.holds Try.pinned (OpenSpec.ofChange poolGrowsSpec)

/-- ITS FALSE NEIGHBOUR: 'it returns false'. Refute it at one input. -/
def poolGrowsWrong : ChangeSpec := { name := "poolGrows", fn := fun _ => fun
  | [d1, d2, d3] => { results := [.lit (.bool false)], args := [d1, d2, d3] }
  | _ => none }
def PoolGrowsWrongFalsely : Prop := poolGrowsRow.holds Try.pinned (OpenSpec.ofChange poolGrowsWrong)

/-- 'regaugelaw11.PoolBack': WHATEVER THE INPUT: true; the input reads as it did. -/
def poolBackSpec : ChangeSpec := { name := "poolBack", fn := fun _ => fun
  | [d1, d2, d3] => { results := [.lit (.bool true)], args := [d1, d2, d3] }
  | _ => none }
def poolBackRow : OpenClaim := { program := "ytmadlckladohbaa", sum := "6d3846830ed257e214d582a2677a74a115abb09633485be8a3ff039ee93a66b4", func := "regauge/regaugelaw11.PoolBack", spec := "poolBack", inPlace := ["slices.overlaps[regauge/run.Run]", "maps.clone"], unfollowed := true, recurses := true, apart := false }
def PoolBackSaid : Prop := poolBackRow.holds Try.pinned (OpenSpec.ofChange poolBackSpec)

/-- ITS FALSE NEIGHBOUR: 'it returns false'. Refute it at one input. -/
def poolBackWrong : ChangeSpec := { name := "poolBack", fn := fun _ => fun
  | [d1, d2, d3] => { results := [.lit (.bool false)], args := [d1, d2, d3] }
  | _ => none }
def PoolBackWrongFalsely : Prop := poolBackRow.holds Try.pinned (OpenSpec.ofChange poolBackWrong)

/- THE SECOND FORM. 'bulk': how many values and letters a reading holds, each counted each time it is reached (what is shared counts as often as it is met; a slice's spare places count too). A statement '..UptoSaid' is the law's where the arguments, and the package variables that the reading takes, are together of bulk at most 1048576: NARROWER than '..Said'. Prove '..Said' where nothing that the law and all that it calls make is longer than what came in: it says more and counts as full. Else prove '..UptoSaid'. A law counts once. -/
mutual
def uptoBulk {H : Type} : DataW H → Nat
  | .lit (.string bytes) => bytes.length + 1
  | .lit _ => 1
  | .nil => 1
  | .ptr d => uptoBulk d + 1
  | .slice elems spare => uptoBulkAll elems + uptoBulkAll spare + 1
  | .agg parts => uptoBulkAll parts + 1
  | .iface _ d => uptoBulk d + 1
  | .map entries => uptoBulkEntries entries + 1
  | .held _ => 1
def uptoBulkAll {H : Type} : List (DataW H) → Nat
  | [] => 0
  | d :: r => uptoBulk d + uptoBulkAll r
def uptoBulkEntries {H : Type} : List (Lit × DataW H) → Nat
  | [] => 0
  | x :: r => uptoBulkEntry x + uptoBulkEntries r
def uptoBulkEntry {H : Type} : Lit × DataW H → Nat
  | (.string bytes, d) => bytes.length + uptoBulk d + 1
  | (_, d) => uptoBulk d + 1
 end
def uptoSmall : (H : Type) → List (DataW H) → Bool := fun _ ds => decide (uptoBulkAll ds ≤ 1048576)
def OpenSpec.upto (s : _root_.Go.ChangeSpec) : _root_.Go.OpenSpec := { _root_.Go.OpenSpec.ofChange s with cond := some uptoSmall }

/-- 'regaugelaw11.PoolSettles', WHERE WHAT IT READS IS OF BULK AT MOST 1048576: true; the input reads as it did. -/
def poolSettlesUptoRow : OpenClaim := { program := "ytmadlckladohbaa", sum := "6d3846830ed257e214d582a2677a74a115abb09633485be8a3ff039ee93a66b4", func := "regauge/regaugelaw11.PoolSettles", spec := "poolSettles", inPlace := ["slices.overlaps[regauge/run.Run]", "maps.clone"], unfollowed := true, recurses := true, apart := false, narrowed := true }
def PoolSettlesUptoSaid : Prop := poolSettlesUptoRow.holds Try.pinned (OpenSpec.upto poolSettlesSpec)

/-- 'regaugelaw11.PoolStates', WHERE WHAT IT READS IS OF BULK AT MOST 1048576: true; the input reads as it did. -/
def poolStatesUptoRow : OpenClaim := { program := "ytmadlckladohbaa", sum := "6d3846830ed257e214d582a2677a74a115abb09633485be8a3ff039ee93a66b4", func := "regauge/regaugelaw11.PoolStates", spec := "poolStates", inPlace := ["slices.overlaps[regauge/run.Run]", "maps.clone"], unfollowed := true, recurses := true, apart := false, narrowed := true }
def PoolStatesUptoSaid : Prop := poolStatesUptoRow.holds Try.pinned (OpenSpec.upto poolStatesSpec)

/-- 'regaugelaw11.PoolGrows', WHERE WHAT IT READS IS OF BULK AT MOST 1048576: true; the input reads as it did. -/
def poolGrowsUptoRow : OpenClaim := { program := "ytmadlckladohbaa", sum := "6d3846830ed257e214d582a2677a74a115abb09633485be8a3ff039ee93a66b4", func := "regauge/regaugelaw11.PoolGrows", spec := "poolGrows", inPlace := ["slices.overlaps[regauge/run.Run]", "maps.clone"], unfollowed := true, recurses := true, apart := false, narrowed := true }
def PoolGrowsUptoSaid : Prop := poolGrowsUptoRow.holds Try.pinned (OpenSpec.upto poolGrowsSpec)

/-- 'regaugelaw11.PoolBack', WHERE WHAT IT READS IS OF BULK AT MOST 1048576: true; the input reads as it did. -/
def poolBackUptoRow : OpenClaim := { program := "ytmadlckladohbaa", sum := "6d3846830ed257e214d582a2677a74a115abb09633485be8a3ff039ee93a66b4", func := "regauge/regaugelaw11.PoolBack", spec := "poolBack", inPlace := ["slices.overlaps[regauge/run.Run]", "maps.clone"], unfollowed := true, recurses := true, apart := false, narrowed := true }
def PoolBackUptoSaid : Prop := poolBackUptoRow.holds Try.pinned (OpenSpec.upto poolBackSpec)

end Rows
end Go.Proofs.Ytmadlckladohbaa
