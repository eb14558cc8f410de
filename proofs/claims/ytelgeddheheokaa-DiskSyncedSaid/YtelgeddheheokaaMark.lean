/-
  Which sectors a row of writes names; what a look leaves of the others.
-/
import Derived.Test.YtelgeddheheokaaKeep
set_option linter.unusedVariables false
namespace Go.Proofs.Ytelgeddheheokaa
open Go.RowKit

def marks (N : Nat) (r : List Wr) : List Bool := (List.range N).map fun s => r.any fun e => e.1 == s
theorem marks_length (N : Nat) (r : List Wr) : (marks N r).length = N := by simp [marks]
theorem marks_nil (N : Nat) : marks N [] = List.replicate N false := by
  apply List.ext_getElem
  · simp [marks]
  · intro i h1 h2; simp [marks]
theorem marks_next (N : Nat) (r : List Wr) (a : Nat) (xs : Bytes) (j : Nat) : marks N (r ++ chunks a xs (j + 1)) = (marks N (r ++ chunks a xs j)).set (a + j) true := by
  rw [chunks_succ, ← List.append_assoc]
  apply List.ext_getElem
  · simp [marks]
  · intro i h1 h2
    rw [List.getElem_set]
    have h3 : i < N := by simpa [marks] using h1
    by_cases h : a + j = i
    · simp [marks, h]
    · rw [if_neg h]
      have hb : (a + j == i) = false := by simpa using h
      simp [marks, hb]
theorem marks_of {N : Nat} {r : List Wr} {s : Nat} (h : (marks N r)[s]? = some false) : ∀ e ∈ r, e.1 ≠ s := by
  have hs : s < N := by
    have := (List.getElem?_eq_some_iff.1 h).1
    simpa [marks] using this
  intro e he hes
  simp only [marks, List.getElem?_map, List.getElem?_range hs, Option.map_some, Option.some.injEq, List.any_eq_false] at h
  exact h e he (by simp [hes])

theorem look_apart {n : Nat} (s : Nat) : ∀ (r : List Wr) (xs : Bytes), Fits n r → xs.length = n * 64 → (∀ e ∈ r, e.1 ≠ s) → ((look xs r).drop (s * 64)).take 64 = (xs.drop (s * 64)).take 64
  | [], xs, _, _, _ => rfl
  | e :: r, xs, h, hl, hn => by
    have h1 := h e (by simp)
    have h2 := hn e (by simp)
    have hp : (put xs e).length = n * 64 := (over_length _ _ _ (by omega)).trans hl
    show ((look (put xs e) r).drop (s * 64)).take 64 = _
    rw [look_apart s r (put xs e) (fun x hx => h x (by simp [hx])) hp (fun x hx => hn x (by simp [hx]))]
    apply List.ext_getElem?
    intro i
    rw [List.getElem?_take, List.getElem?_take]
    split
    · rw [List.getElem?_drop, List.getElem?_drop]
      unfold put
      rw [over_get _ _ _ (by omega), if_neg (by omega)]
    · rfl

/-- What a crash leaves of a sector that no write of the row names. -/
theorem crash_apart {d : Dsk} (hw : d.WF) (kl : List Bool) (s : Nat) (h : (marks d.n d.row)[s]? = some false) : ((d.crash kl).see.drop (s * 64)).take 64 = (d.dur.drop (s * 64)).take 64 := by
  show ((look (look d.dur (kept kl d.row d.row.length)) []).drop (s * 64)).take 64 = _
  exact look_apart s _ _ (kept_fits hw.fits) hw.len (fun e he => marks_of h e (kept_mem _ _ _ e he))
end Go.Proofs.Ytelgeddheheokaa
