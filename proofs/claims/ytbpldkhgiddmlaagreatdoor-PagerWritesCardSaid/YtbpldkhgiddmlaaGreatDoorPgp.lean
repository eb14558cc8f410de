/-
  What a commit leaves on a disk, sector by sector: plain data. No memory here.
-/
import Derived.Test.YtbpldkhgiddmlaaGreatDoorPgf
import Derived.Test.YtbpldkhgiddmlaaGreatDoorMzp
set_option linter.unusedVariables false
namespace Go.Proofs.YtbpldkhgiddmlaaGreatDoor

def z64 : Bytes := List.replicate 64 0
theorem sect_over {T xs : Bytes} {e k : Nat} (hx : xs.length = 64) (h : e * 64 + 64 ≤ T.length) (hk : k * 64 + 64 ≤ T.length) : sect (over T (e * 64) xs) k = if k = e then xs else sect T k := by
  refine List.ext_getElem? fun i => ?_
  unfold sect
  by_cases hi : i < 64
  · rw [List.getElem?_take, if_pos hi, List.getElem?_drop, over_at9 _ _ _ _ (by omega), hx]
    by_cases h1 : k = e
    · subst h1
      rw [if_pos rfl, if_pos (by omega)]
      congr 1
      omega
    · rw [if_neg h1, if_neg (by omega), List.getElem?_take, if_pos hi, List.getElem?_drop]
  · rw [List.getElem?_take, if_neg hi]
    split
    · rw [List.getElem?_eq_none (by omega)]
    · rw [List.getElem?_take, if_neg hi]
abbrev SQ := Nat → Bytes → Prop
/-- Of each sector, durable or not, Q is true. -/
structure Good (Q : SQ) (d : Dk.Dsk) : Prop where
  dur : ∀ k, k < d.n → Q k (sect d.dur k)
  row : ∀ e ∈ d.row, Q e.1 e.2
theorem Good.imp {Q Q' : SQ} {d : Dk.Dsk} (h : Good Q d) (hq : ∀ k v, Q k v → Q' k v) : Good Q' d := ⟨fun k hk => hq k _ (h.dur k hk), fun e he => hq _ _ (h.row e he)⟩
theorem good_look {Q : SQ} {n : Nat} : ∀ (r : List Dk.Wr) (s : Bytes), Dk.Fits n r → s.length = n * 64 → (∀ k, k < n → Q k (sect s k)) → (∀ e ∈ r, Q e.1 e.2) → ∀ k, k < n → Q k (sect (Dk.look s r) k)
  | [], s, _, _, h, _ => h
  | e :: r, s, hf, hl, h, hr => by
    have he := hf e (by simp)
    have hlo : (Dk.put s e).length = n * 64 := (over_length _ _ _ (by omega)).trans hl
    refine good_look r (Dk.put s e) (fun x hx => hf x (by simp [hx])) hlo (fun k hk => ?_) (fun x hx => hr x (by simp [hx]))
    have hs : sect (Dk.put s e) k = if k = e.1 then e.2 else sect s k := sect_over he.2 (by omega) (by omega)
    rw [hs]
    split
    · rename_i e1
      rw [e1]
      exact hr e (by simp)
    · exact h k hk
theorem Good.see {Q : SQ} {d : Dk.Dsk} (h : Good Q d) (hw : d.WF) : ∀ k, k < d.n → Q k (sect d.see k) := good_look d.row d.dur hw.fits hw.len h.dur h.row
/-- What some ops leave as it was, and how they end. -/
structure Goes (d : Dk.Dsk) (k : Nat) (r : Dk.Dsk × Int) : Prop where
  n : r.1.n = d.n
  limit : r.1.limit = d.limit
  armed : r.1.armed = d.armed
  left : r.1.left ≤ d.left
  ends : (r.2 = 0 ∧ r.1.down = false ∧ r.1.ops = d.ops + k) ∨ (r.2 = 10 ∧ r.1.down = true ∧ d.armed = true)
end Go.Proofs.YtbpldkhgiddmlaaGreatDoor
