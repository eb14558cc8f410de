/-
  A script of calls in memory; the statements' own bound on it.
-/
import Derived.Test.YtmkpcdcdhheokaaLaws
import Derived.Deep.LoopGhost
set_option linter.unusedVariables false
namespace Go.Proofs.Ytmkpcdcdhheokaa
open Go.RowKit

/-- A call of a script, as its four cells. -/
structure Cl where
  kind : Int
  n : Int
  width : Int
  B : Option Addr
  cB : Nat
  xs : Bytes

def Cl.v (o : Cl) : Value := .slice o.B o.xs.length o.cB
def Cl.cells (o : Cl) : List Value := [.int .i64 o.kind, .int .i64 o.n, .int .i64 o.width, .slice o.B o.xs.length o.cB]
structure Cl.Ok (w : World) (o : Cl) : Prop where
  k1 : -9223372036854775808 ≤ o.kind ∧ o.kind ≤ 9223372036854775807
  n1 : -9223372036854775808 ≤ o.n ∧ o.n ≤ 9223372036854775807
  w1 : -9223372036854775808 ≤ o.width ∧ o.width ≤ 9223372036854775807
  src : Src w (.slice o.B o.xs.length o.cB) o.xs
  max : o.xs.length ≤ 140737488355328

/-- The slice value '.slice A n c' holds these calls. -/
def Script (w : World) (A : Option Addr) (n : Nat) (l : List Cl) : Prop :=
  l.length = n ∧ (∀ o ∈ l, o.Ok w) ∧ (0 < n → ∃ b off, A = some ⟨b, off, none⟩ ∧ b < w.heap.size ∧ ∀ (k : Nat) (o : Cl), l[k]? = some o → w.rangeAt b (off + k * 4) o.cells)

theorem Script.at_ {w : World} {A : Option Addr} {n : Nat} {l : List Cl} (h : Script w A n l) {k : Nat} (hk : k < n) :
    ∃ b off o, A = some ⟨b, off, none⟩ ∧ b < w.heap.size ∧ l[k]? = some o ∧ o.Ok w ∧ w.rangeAt b (off + k * 4) o.cells := by
  obtain ⟨hl, ho, hp⟩ := h
  obtain ⟨b, off, hA, hb, hc⟩ := hp (by omega)
  have hg : l[k]? = some l[k] := List.getElem?_eq_getElem (by omega)
  exact ⟨b, off, l[k], hA, hb, hg, ho _ (List.getElem_mem (by omega)), hc k _ hg⟩
theorem range_only {w w' : World} {F : Nat → Prop} {b o : Nat} {cs : List Value} (h : w.rangeAt b o cs) (ho : Only F w w') (hb : ¬ F b) : w'.rangeAt b o cs := fun j v hv => (ho.cell (p := ⟨b, o + j, none⟩) hb).trans (h j v hv)

def total (l : List Cl) : Nat := (l.map (·.xs.length)).sum
theorem total_snoc (l : List Cl) (k : Nat) (o : Cl) (h : l[k]? = some o) : total (l.take (k + 1)) = total (l.take k) + o.xs.length := by
  rw [List.take_add_one, h]
  simp [total]
theorem total_le {l : List Cl} {M : Nat} (h : ∀ o ∈ l, o.xs.length ≤ M) : ∀ k, total (l.take k) ≤ k * M
  | 0 => by simp [total]
  | k + 1 => by
    have ih := total_le h k
    rw [Nat.succ_mul]
    cases hk : l[k]? with
    | none => rw [List.take_add_one, hk]; simp; omega
    | some o => rw [total_snoc l k o hk]; have := h o (List.mem_of_getElem? hk); omega

def FewSays (w : World) (n : Nat) (l : List Cl) (e : Ending) (w' : World) : Prop := e = .returned (.bool (decide (n ≤ 100 ∧ total l ≤ 4000))) ∧ Only (w.heap.size ≤ ·) w w'

set_option maxRecDepth 100000 in
set_option maxHeartbeats 1600000 in
theorem few_c (w : World) (A : Option Addr) (n c : Nat) (l : List Cl) (h : Script w A n l) (hn : n ≤ 140737488355328) : Calls Try.prog 7 #[.slice A n c] w (FewSays w n l) := by
  have HS := Lib.hid h
  by_cases h100 : n ≤ 100
  · have HB : Hid (∀ k, k ≤ 100 → total (l.take k) ≤ 14073748835532800) := fun k hk => by
      have h1 := total_le (l := l) (fun o ho => (h.2.1 o ho).max) k
      show _ ≤ _
      omega
    clear h
    go_enter Try.func7, Try.ntmps7
    go_wp2
    go_loopw [3, 8] (fun s i wr => ∃ (k : Nat), k ≤ n ∧ s = .int .i64 (total (l.take k) : Nat) ∧ i = .int .i64 k ∧ Only (w.heap.size ≤ ·) w wr) (fun _ i _ => n - (intOf i).toNat)
    case atStart => exact ⟨0, Nat.zero_le _, rfl, rfl, Only.refl _ _⟩
    case round =>
      obtain ⟨k, hk, rfl, rfl, ho⟩ := hrel
      have HO := Lib.hid ho
      clear ho
      by_cases hlt : k < n
      · obtain ⟨b, off, o, rfl, hb, hlk, hok, hr⟩ := HS.out.at_ hlt
        have hr' := range_only hr HO.out (by omega)
        have q0 : wr.cell? ⟨b, off + k * 4, none⟩ = some (.int .i64 o.kind) := hr' 0 _ rfl
        have q1 : wr.cell? ⟨b, off + k * 4 + 1, none⟩ = some (.int .i64 o.n) := hr' 1 _ rfl
        have q2 : wr.cell? ⟨b, off + k * 4 + 2, none⟩ = some (.int .i64 o.width) := hr' 2 _ rfl
        have q3 : wr.cell? ⟨b, off + k * 4 + 3, none⟩ = some (.slice o.B o.xs.length o.cB) := hr' 3 _ rfl
        have hk0 : (0 : Int) ≤ (k : Int) := Int.natCast_nonneg _
        have hk1 : (k : Int) < (n : Int) := by omega
        have HT := Lib.hid (total_snoc l k o hlk)
        have hm := hok.max
        have ht := HB.out k (by omega)
        generalize total (l.take k) = t at HT ht ⊢
        generalize hL : o.xs.length = L at q3 HT hm
        clear hr hr' hok hb hlk hL
        go_wp2
        refine ⟨⟨k + 1, by omega, by rw [HT.out]; go_num, by go_num, HO.out.alloc (fun _ h => h) _⟩, ?_⟩
        simp [intOf]
        omega
      · obtain rfl : k = n := by omega
        have hkm : ¬ (k : Int) < (k : Int) := by omega
        have hd : decide ((k : Int) ≤ 100) = true := by simp; omega
        have hl := HS.out.1
        rw [List.take_of_length_le (by omega)]
        obtain ⟨t, ht⟩ : ∃ t, t = total l := ⟨_, rfl⟩
        have E : Hid (decide (k ≤ 100 ∧ total l ≤ 4000) = decide ((t : Int) ≤ 4000)) := by
          rw [ht]
          show _ = _
          by_cases ht : total l ≤ 4000
          · rw [decide_eq_true (show k ≤ 100 ∧ total l ≤ 4000 from ⟨h100, ht⟩), decide_eq_true (show (total l : Int) ≤ 4000 by omega)]
          · rw [decide_eq_false (show ¬ (k ≤ 100 ∧ total l ≤ 4000) from fun h => ht h.2), decide_eq_false (show ¬ (total l : Int) ≤ 4000 by omega)]
        rw [← ht]
        clear hl ht
        go_wp2
        all_goals
          go_ret
          exact ⟨by rw [E.out]; rfl, HO.out⟩
  · have E : Hid (decide (n ≤ 100 ∧ total l ≤ 4000) = false) := decide_eq_false fun h => h100 h.1
    clear h
    go_enter Try.func7, Try.ntmps7
    go_wp2
    go_loopw [3, 8] (fun s i wr => ∃ (k : Nat) (t : Int), k ≤ n ∧ s = .int .i64 t ∧ i = .int .i64 k ∧ Only (w.heap.size ≤ ·) w wr) (fun _ i _ => n - (intOf i).toNat)
    case atStart => exact ⟨0, 0, Nat.zero_le _, rfl, rfl, Only.refl _ _⟩
    case round =>
      obtain ⟨k, t, hk, rfl, rfl, ho⟩ := hrel
      have HO := Lib.hid ho
      clear ho
      by_cases hlt : k < n
      · obtain ⟨b, off, o, rfl, hb, hlk, hok, hr⟩ := HS.out.at_ hlt
        have hr' := range_only hr HO.out (by omega)
        have q0 : wr.cell? ⟨b, off + k * 4, none⟩ = some (.int .i64 o.kind) := hr' 0 _ rfl
        have q1 : wr.cell? ⟨b, off + k * 4 + 1, none⟩ = some (.int .i64 o.n) := hr' 1 _ rfl
        have q2 : wr.cell? ⟨b, off + k * 4 + 2, none⟩ = some (.int .i64 o.width) := hr' 2 _ rfl
        have q3 : wr.cell? ⟨b, off + k * 4 + 3, none⟩ = some (.slice o.B o.xs.length o.cB) := hr' 3 _ rfl
        have hk0 : (0 : Int) ≤ (k : Int) := Int.natCast_nonneg _
        have hk1 : (k : Int) < (n : Int) := by omega
        generalize hL : o.xs.length = L at q3
        clear hr hr' hok hb hlk hL
        go_wp2
        refine ⟨⟨k + 1, _, by omega, rfl, by go_num, HO.out.alloc (fun _ h => h) _⟩, ?_⟩
        simp [intOf]
        omega
      · obtain rfl : k = n := by omega
        have hkm : ¬ (k : Int) < (k : Int) := by omega
        have hd : decide ((k : Int) ≤ 100) = false := by simp; omega
        go_wp2
        all_goals
          go_ret
          exact ⟨by rw [E.out]; rfl, HO.out⟩
end Go.Proofs.Ytmkpcdcdhheokaa
