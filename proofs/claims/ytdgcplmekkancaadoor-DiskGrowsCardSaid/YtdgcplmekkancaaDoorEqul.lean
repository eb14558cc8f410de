/-
  bytes.Equal; bits.Mul at 1 and 128.
-/
import Derived.Test.YtdgcplmekkancaaDoorAbst
import Derived.Laws.BytesArg
set_option linter.unusedVariables false
namespace Go.Proofs.YtdgcplmekkancaaDoor
open Go.RowKit

/-- A slice value that holds these bytes. -/
def Txt (w : World) (A : Option Addr) (n : Nat) (xs : Bytes) : Prop := xs.length = n ∧ (0 < n → ∃ ad, A = some ad ∧ ∀ j u, (cb xs)[j]? = some u → w.cell? (ad.add j) = some u)

theorem foldl_push (l : Bytes) : ∀ s : ByteArray, (l.map fun b => (b.toNat : Int)).foldl (fun r n => r.push (UInt8.ofNat n.toNat)) s = ⟨s.data ++ l.toArray⟩ := by
  intro s
  rw [foldl_push_bytes, List.map_map]
  congr 2
  rw [show (fun n : Int => UInt8.ofNat n.toNat) ∘ (fun b : UInt8 => (b.toNat : Int)) = id from funext fun b => by simp]
  simp

theorem convert_txt (w : World) (A : Option Addr) (n c : Nat) (xs : Bytes) (h : Txt w A n xs) :
    (convert 22 9 (.slice A n c)).run Tryd.prog w = .ok (.string ⟨xs.toArray⟩) w := by
  rw [run_convert_bytes_string w 22 9 5 _ n c Tryd.underlying22 Tryd.underlying5 Tryd.underlying9]
  rcases Nat.eq_zero_or_pos n with h0 | h0
  · subst h0
    obtain rfl : xs = [] := List.eq_nil_of_length_eq_zero h.1
    cases A <;> simp [Conv.bytesToString, loadCells]
    all_goals rfl
  · obtain ⟨ad, rfl, hc⟩ := h.2 h0
    have hl : (loadCells ad n).run Tryd.prog w = .ok ((xs.map fun b => (b.toNat : Int)).map (Value.int .u8)).toArray w := by
      have := run_loadCells_list (P := Tryd.prog) w ad (cb xs) hc
      rw [cb_length, h.1] at this
      rw [this]
      simp [cb]
    rw [run_bytesToString w ad n c _ hl, foldl_push]
    simp [ByteArray.empty, ByteArray.emptyWithCapacity]
    rfl

theorem Equal_c (w : World) (A B : Option Addr) (n c m c' : Nat) (xs ys : Bytes) (h : Txt w A n xs) (h' : Txt w B m ys) :
    Calls Tryd.prog 25 #[.slice A n c, .slice B m c'] w fun e w' => e = .returned (.bool (decide (xs = ys))) ∧ w = w' := by
  have k1 := convert_txt w A n c xs h
  have k2 := convert_txt w B m c' ys h'
  clear h h'
  go_enter Tryd.func25, Tryd.ntmps25
  go_wp2
  go_ret
  refine ⟨?_, rfl⟩
  congr 2
  by_cases e : xs = ys
  · subst e; simp
  · simp [e]

theorem Mul_c (w : World) : Calls Tryd.prog 35 #[.int .u64 1, .int .u64 128] w fun e w' => e = .returned (.tuple #[.int .u64 0, .int .u64 128]) ∧ w = w' := by
  have h64 : Calls Tryd.prog 42 #[.int .u64 1, .int .u64 128] w fun e w' => e = .returned (.tuple #[.int .u64 0, .int .u64 128]) ∧ w = w' := by
    go_enter Tryd.func42, Tryd.ntmps42
    go_wp2
    go_ret2
    exact ⟨rfl, rfl⟩
  go_enter Tryd.func35, Tryd.ntmps35
  go_wp2_with (go_at_call 42; refine h64.mono ?_; rintro e w' ⟨rfl, rfl⟩)
  go_ret2
  exact ⟨rfl, rfl⟩
end Go.Proofs.YtdgcplmekkancaaDoor
