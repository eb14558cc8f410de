/-
  put of the document: a number behind bytes of the call's own.
-/
import Derived.Test.YtbgnfocfnjlabaaDoorGe
import Derived.Test.YtbgnfocfnjlabaaDoorGa
set_option linter.unusedVariables false
namespace Go.Proofs.YtbgnfocfnjlabaaDoor
open Go.RowKit

/-- Bytes of the call's own (from block B on) came back. -/
def PutB (B : Nat) (w : World) (xs : Bytes) (e : Ending) (w' : World) : Prop := ∃ v, e = .returned v ∧ w'.ownsRow B 5 1 v xs.length (cb xs) ∧ Only (B ≤ ·) w w'
set_option maxRecDepth 100000 in
theorem rput_c (w : World) (B : Nat) (v : Value) (xs : Bytes) (a k : Nat) (hB : B ≤ w.heap.size) (h : w.ownsRow B 5 1 v xs.length (cb xs)) (hl : xs.length + k ≤ 65536) (ha : a < 9223372036854775808) :
    Calls Tryd.prog 86 #[v, .int .i64 a, .int .i64 k] w (PutB B w (xs ++ le a k)) := by
  obtain ⟨i0, hi0, hz0, hz1, hz2⟩ := info_parts info8
  have HI := Lib.hid (And.intro hi0 (And.intro hz0 (And.intro hz1 hz2)))
  clear hi0 hz0 hz1 hz2
  have H0 : Hid (w.ownsRow B 5 1 v (xs.length + 0) (cb (xs ++ le a 0)) ∧ Only (B ≤ ·) w w) := Lib.hid ⟨by simpa [le] using h, Only.refl _ _⟩
  obtain ⟨N, hN⟩ : ∃ N, N = xs.length := ⟨_, rfl⟩
  rw [← hN] at H0 hl
  have HN := Lib.hid hN
  clear h hN
  go_enter Tryd.func86, Tryd.ntmps86
  go_wp2
  go_loopw [0, 1, 7] (fun bv nv i wr => ∃ t : Nat, t ≤ k ∧ i = .int .i64 t ∧ nv = .int .i64 (a / 256 ^ t : Nat) ∧ Hid (wr.ownsRow B 5 1 bv (N + t) (cb (xs ++ le a t)) ∧ Only (B ≤ ·) w wr)) (fun _ _ i _ => k - (intOf i).toNat)
  case atStart => exact ⟨0, Nat.zero_le _, rfl, by simp, H0⟩
  case round =>
    clear H0
    obtain ⟨t, ht, rfl, rfl, HR⟩ := hrel
    by_cases hlt : t < k
    · have hti : (t : Int) < (k : Int) := by omega
      obtain ⟨z, hz⟩ : ∃ z, z = a / 256 ^ t := ⟨_, rfl⟩
      have HS := Lib.hid (le_snoc a t)
      have hz2 : a / 256 ^ (t + 1) = z / 256 := by rw [hz, Nat.div_div_eq_div_mul, Nat.pow_succ]
      rw [← hz] at HS
      have HZ := Lib.hid hz2
      have zl : z < 9223372036854775808 := by rw [hz]; exact Nat.lt_of_le_of_lt (Nat.div_le_self _ _) ha
      rw [← hz]
      clear hz hz2
      have hw1 : IntKind.u8.wrap ((z : Int) % 256) = ((z % 256 : Nat) : Int) := by unfold IntKind.wrap; simp [IntKind.signed, IntKind.bits]
      have HB2 : Hid (B ≤ (wr.alloc (.cells #[.int .u8 ((z : Int) % 256)] 5)).heap.size) := by
        have := HR.out.2.size
        show _ ≤ _
        simp
        omega
      have HLN : Hid ((cb (xs ++ le a t)).length = N + t) := Lib.hid (by rw [cb_length, List.length_append, le_length, HN.out])
      go_wp2_with (at_builtin; refine wpList_append_own _ rfl (.tmp 13) (.tmp 17) 27 rfl B 5 i0 _ 1 1 Tryd.underlying27 HI.out.1 HI.out.2.1 HI.out.2.2.1 HI.out.2.2.2 (by rfl) (by omega) _ _ _ rfl (HR.out.1.alloc _) ⟨wr.heap.size, 0, none⟩ 1 1 [.int .u8 ((z : Int) % 256)] rfl (by rfl) (one_cell wr 5 _) (by simp [Value.oneCell']) (by simp only [maxLen]; omega) (by omega) HB2.out ?_; intro v' w' ho' hg' _)
      have HX : Hid (w'.ownsRow B 5 1 v' (N + (t + 1)) (cb (xs ++ le a (t + 1))) ∧ Only (B ≤ ·) w w') := Lib.hid (by
        refine ⟨?_, (HR.out.2.trans (((Only.refl (B ≤ ·) wr).alloc (fun j hj => Nat.le_trans (Nat.le_trans hB HR.out.2.size) hj) _))).grown hg' (fun j hj => Nat.le_trans hB hj) (fun g hg => (HR.out.1.lt g hg).1)⟩
        rw [HS.out, ← List.append_assoc, cb_append]
        have e1 : cb [UInt8.ofNat (z % 256)] = [.int .u8 ((z : Int) % 256)] := by simp [cb]
        rw [e1]
        exact ho')
      go_wp2
      go_roundw
      case rel => exact ⟨t + 1, by omega, by go_num, by rw [HZ.out]; simp, HX⟩
      case measure => (simp [intOf] <;> omega)
    · obtain rfl : t = k := by omega
      have hkk : ¬ (t : Int) < (t : Int) := by omega
      go_wp2
      go_ret
      exact ⟨_, rfl, by rw [List.length_append, le_length, ← HN.out]; exact HR.out.1, HR.out.2⟩
end Go.Proofs.YtbgnfocfnjlabaaDoor
