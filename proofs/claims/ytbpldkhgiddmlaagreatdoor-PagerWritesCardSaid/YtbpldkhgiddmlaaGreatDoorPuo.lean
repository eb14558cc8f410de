/-
  The ops of a commit, of a format: what they make of a disk.
-/
import Derived.Test.YtbpldkhgiddmlaaGreatDoorGq
import Derived.Test.YtbpldkhgiddmlaaGreatDoorPgf
set_option linter.unusedVariables false
namespace Go.Proofs.YtbpldkhgiddmlaaGreatDoor
open Go.RowKit

def opW (y : Wt) : Kop := (2, y.1 * 4, y.2)
def opS : Kop := (3, 0, [])
def opsW (L : List (List Wt)) : List Kop := L.flatMap fun l => l.map opW ++ [opS]
theorem runK_cons (d : Dk.Dsk) (o : Kop) (l : List Kop) : runK d (o :: l) = if (doK d o).2 = 0 then runK (doK d o).1 l else doK d o := rfl
theorem doK_w (d : Dk.Dsk) (y : Wt) : doK d (opW y) = d.write (y.1 * 4) y.2 := rfl
theorem doK_s (d : Dk.Dsk) : doK d opS = d.sync := rfl
theorem run_wrs : ∀ (l : List Wt) (d : Dk.Dsk) (R : List Kop), runK d (l.map opW ++ R) = if (wrs d l).2 = 0 then runK (wrs d l).1 R else wrs d l
  | [], d, R => by rw [List.map_nil, List.nil_append, wrs, if_pos rfl]
  | y :: l, d, R => by
    rw [List.map_cons, List.cons_append, runK_cons, doK_w]
    by_cases h : (d.write (y.1 * 4) y.2).2 = 0
    · rw [if_pos h, wrs_ok h]
      exact run_wrs l _ R
    · rw [if_neg h, wrs_bad h, if_neg h]
theorem run_rds : ∀ (L : List (List Wt)) (d : Dk.Dsk), runK d (opsW L) = rds d L
  | [], d => rfl
  | l :: L, d => by
    have e : opsW (l :: L) = l.map opW ++ (opS :: opsW L) := by
      unfold opsW
      rw [List.flatMap_cons, List.append_assoc, List.singleton_append]
    rw [e, run_wrs, runK_cons, doK_s, rds]
    by_cases h : (wrs d l).2 = 0
    · rw [if_pos h, if_pos h]
      by_cases h2 : (wrs d l).1.sync.2 = 0
      · rw [if_pos h2, if_pos h2]
        exact run_rds L _
      · rw [if_neg h2, if_neg h2]
    · rw [if_neg h, if_neg h]
theorem run_wrP (d : Dk.Dsk) (N : Int) (L : List (List Wt)) : runK d ((0, N * 4, []) :: opsW L) = wrP d N L := by
  rw [runK_cons, run_rds]
  rfl
/-- The rounds, as the document's Ops has them. -/
def opsR (fm : Bool) (x : Int) (ws : List Wt) (a b : Bytes) : List (List Wt) := if fm = true then [[(sl (x - 1), a), (sl x, b)] ++ ws] else [(sl x, z256) :: ws, [(sl x, b)]]
def opsK (fm : Bool) (N x : Int) (ws : List Wt) (a b : Bytes) : List Kop := (0, N * 4, []) :: opsW (opsR fm x ws a b)
/-- What the program makes of a disk, and what it tells. -/
def goP (fm : Bool) (d : Dk.Dsk) (ok : Bool) (N x : Int) (ws : List Wt) (a b : Bytes) : Dk.Dsk × Int := if fm = true then fmP d ok N x ws a b else cmP d ok N x ws b
theorem run_ops (fm : Bool) (d : Dk.Dsk) (ok : Bool) (N x : Int) (ws : List Wt) (a b : Bytes) (h : pgRight ok N ws = true) (h2 : fm = true → 2 ≤ x) : runK d (opsK fm N x ws a b) = goP fm d ok N x ws a b := by
  unfold opsK goP opsR
  rw [run_wrP]
  cases fm with
  | true =>
    rw [if_pos rfl, if_pos rfl]
    unfold fmP
    rw [if_pos ⟨h, h2 rfl⟩]
  | false =>
    rw [if_neg (by decide), if_neg (by decide)]
    unfold cmP
    rw [if_pos h]
theorem go_bad (fm : Bool) (d : Dk.Dsk) (ok : Bool) (N x : Int) (ws : List Wt) (a b : Bytes) (h : ¬ (pgRight ok N ws = true ∧ (fm = true → 2 ≤ x))) : goP fm d ok N x ws a b = (d, 1) := by
  unfold goP
  cases fm with
  | true =>
    rw [if_pos rfl]
    unfold fmP
    rw [if_neg (fun h9 => h ⟨h9.1, fun _ => h9.2⟩)]
  | false =>
    rw [if_neg (by decide)]
    unfold cmP
    rw [if_neg (fun h9 => h ⟨h9, fun e => by cases e⟩)]
end Go.Proofs.YtbpldkhgiddmlaaGreatDoor
