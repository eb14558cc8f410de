/-
  A script of calls in memory; the statements' own bound on it.
-/
import Derived.Test.YtelgeddheheokaaSync
set_option linter.unusedVariables false
namespace Go.Proofs.Ytelgeddheheokaa
open Go.RowKit

/-- A call of a script, as its five cells. -/
structure Cl where
  kind : Int
  at_ : Int
  many : Int
  B : Option Addr
  nB : Nat
  cB : Nat
  xs : Bytes
  K : Option Addr
  nK : Nat
  cK : Nat

def Cl.cells (o : Cl) : List Value := [.int .i64 o.kind, .int .i64 o.at_, .int .i64 o.many, .slice o.B o.nB o.cB, .slice o.K o.nK o.cK]
structure Cl.Ok (w : World) (o : Cl) : Prop where
  k1 : -9223372036854775808 ≤ o.kind ∧ o.kind ≤ 9223372036854775807
  a1 : -9223372036854775808 ≤ o.at_ ∧ o.at_ ≤ 9223372036854775807
  m1 : -9223372036854775808 ≤ o.many ∧ o.many ≤ 9223372036854775807
  hB : o.xs.length = o.nB ∧ (0 < o.nB → ∃ ad, o.B = some ad ∧ ad.block < w.heap.size ∧ ∀ j u, (cb o.xs)[j]? = some u → w.cell? (ad.add j) = some u)
  cB : o.nB ≤ o.cB ∧ o.cB ≤ maxLen
  cK : o.nK ≤ o.cK ∧ o.cK ≤ maxLen

/-- The slice value '.slice A n c' holds these calls. -/
def Script (w : World) (A : Option Addr) (n : Nat) (l : List Cl) : Prop :=
  l.length = n ∧ n ≤ maxLen ∧ (∀ o ∈ l, o.Ok w) ∧ (0 < n → ∃ b off, A = some ⟨b, off, none⟩ ∧ b < w.heap.size ∧ ∀ (k : Nat) (o : Cl), l[k]? = some o → w.rangeAt b (off + k * 5) o.cells)

theorem Script.at_ {w : World} {A : Option Addr} {n : Nat} {l : List Cl} (h : Script w A n l) {k : Nat} (hk : k < n) :
    ∃ b off o, A = some ⟨b, off, none⟩ ∧ b < w.heap.size ∧ l[k]? = some o ∧ o.Ok w ∧ w.rangeAt b (off + k * 5) o.cells := by
  obtain ⟨hl, hm, ho, hp⟩ := h
  obtain ⟨b, off, hA, hb, hc⟩ := hp (by omega)
  have hg : l[k]? = some l[k] := List.getElem?_eq_getElem (by omega)
  exact ⟨b, off, l[k], hA, hb, hg, ho _ (List.getElem_mem (by omega)), hc k _ hg⟩
theorem range_only {w w' : World} {F : Nat → Prop} {b o : Nat} {cs : List Value} (h : w.rangeAt b o cs) (ho : Only F w w') (hb : ¬ F b) : w'.rangeAt b o cs := fun j v hv => (ho.cell (p := ⟨b, o + j, none⟩) hb).trans (h j v hv)

def FewSays (w : World) (n : Nat) (e : Ending) (w' : World) : Prop := ∃ r : Bool, e = .returned (.bool r) ∧ (r = true → n ≤ 60) ∧ Only (w.heap.size ≤ ·) w w'

set_option maxRecDepth 100000 in
set_option maxHeartbeats 1600000 in
theorem few_c (w : World) (A : Option Addr) (n c : Nat) (l : List Cl) (h : Script w A n l) : Calls Try.prog 7 #[.slice A n c] w (FewSays w n) := by
  have hm : (n : Int) ≤ 9223372036854775807 := by have := h.2.1; simp only [maxLen] at this; omega
  have HS := Lib.hid h
  clear h
  go_enter Try.func7, Try.ntmps7
  go_wp2
  go_loopw [3, 8] (fun s i wr => ∃ (k : Nat) (t : Int), k ≤ n ∧ s = .int .i64 t ∧ i = .int .i64 k ∧ Only (w.heap.size ≤ ·) w wr) (fun _ i _ => n - (intOf i).toNat)
  case atStart => exact ⟨0, 0, Nat.zero_le _, rfl, rfl, Only.refl _ _⟩
  case round =>
    obtain ⟨k, t, hk, rfl, rfl, ho⟩ := hrel
    have HO := Lib.hid ho
    clear ho
    by_cases hlt : k < n
    · obtain ⟨b, off, o, rfl, hb, _, hok, hr⟩ := HS.out.at_ hlt
      have hr' := range_only hr HO.out (by omega)
      have q0 : wr.cell? ⟨b, off + k * 5, none⟩ = some (.int .i64 o.kind) := hr' 0 _ rfl
      have q1 : wr.cell? ⟨b, off + k * 5 + 1, none⟩ = some (.int .i64 o.at_) := hr' 1 _ rfl
      have q2 : wr.cell? ⟨b, off + k * 5 + 2, none⟩ = some (.int .i64 o.many) := hr' 2 _ rfl
      have q3 : wr.cell? ⟨b, off + k * 5 + 3, none⟩ = some (.slice o.B o.nB o.cB) := hr' 3 _ rfl
      have q4 : wr.cell? ⟨b, off + k * 5 + 4, none⟩ = some (.slice o.K o.nK o.cK) := hr' 4 _ rfl
      have hk0 : (0 : Int) ≤ (k : Int) := Int.natCast_nonneg _
      have hk1 : (k : Int) < (n : Int) := by omega
      clear hr hr' hok hb
      go_wp2
      all_goals first
        | (refine ⟨⟨k + 1, _, by omega, rfl, by go_num, HO.out.alloc (fun _ h => h) _⟩, ?_⟩; simp [intOf]; omega)
        | (go_ret; exact ⟨false, rfl, fun h => (nomatch h), HO.out.alloc (fun _ h => h) _⟩)
    · have hkm : ¬ (k : Int) < (n : Int) := by omega
      by_cases h60 : n ≤ 60
      · have Hn := Lib.hid h60
        have hd : decide ((n : Int) ≤ 60) = true := by simp; omega
        clear h60
        go_wp2
        all_goals (go_ret; exact ⟨_, rfl, fun _ => Hn.out, HO.out⟩)
      · have hd : decide ((n : Int) ≤ 60) = false := by simp; omega
        go_wp2
        all_goals (go_ret; exact ⟨false, rfl, fun h => (nomatch h), HO.out⟩)
end Go.Proofs.Ytelgeddheheokaa
