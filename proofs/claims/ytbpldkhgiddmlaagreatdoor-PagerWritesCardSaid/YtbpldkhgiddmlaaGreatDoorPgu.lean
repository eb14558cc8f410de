/-
  A commit, a format, and the newest meta behind it: plain data. No memory here.
-/
import Derived.Test.YtbpldkhgiddmlaaGreatDoorPgp
set_option linter.unusedVariables false
namespace Go.Proofs.YtbpldkhgiddmlaaGreatDoor

/-- The other meta's page is A; the page of slot s is zeros, of which some sectors are E's. -/
def Qm (s : Nat) (A E : Bytes) : SQ := fun k v => (k / 4 = 1 - s → v = sect A (k % 4)) ∧ (k / 4 = s → v = z64 ∨ v = sect E (k % 4))
/-- The other meta's page is A, that of slot s is b. -/
def Qe (s : Nat) (A b : Bytes) : SQ := fun k v => (k / 4 = 1 - s → v = sect A (k % 4)) ∧ (k / 4 = s → v = sect b (k % 4))
theorem Qe.turn {s : Nat} (hs : s < 2) {A b : Bytes} (k : Nat) (v : Bytes) (h : Qe s A b k v) : Qm (1 - s) b A k v := ⟨fun e => h.2 (by omega), fun e => .inr (h.1 e)⟩
/-- Ended well. -/
structure Done (d : Dk.Dsk) (k N : Nat) (r : Dk.Dsk × Int) : Prop where
  err : r.2 = 0
  down : r.1.down = false
  row : r.1.row = []
  n : r.1.n = max d.n (N * 4)
  limit : r.1.limit = d.limit
  armed : r.1.armed = d.armed
  ops : r.1.ops = d.ops + k
  wf : r.1.WF
/-- Gone down on the way. -/
structure Fell (d : Dk.Dsk) (N : Nat) (r : Dk.Dsk × Int) : Prop where
  armed : d.armed = true
  err : r.2 = 10
  down : r.1.down = true
  n : r.1.n = max d.n (N * 4)
  limit : r.1.limit = d.limit
  wf : r.1.WF
end Go.Proofs.YtbpldkhgiddmlaaGreatDoor
