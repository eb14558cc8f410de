/-
  A reader's Bytes.
-/
import Derived.Test.YtmkpcdcdhheokaaRdr
set_option linter.unusedVariables false
namespace Go.Proofs.Ytmkpcdcdhheokaa
open Go.RowKit

theorem Own.src {w : World} {p g : Nat} {T : TypeId} {c : Cur} {n : Int} {v : Value} (h : Own g c.at_ (c.got n).length v) (hh : Holds w p g T (c.take n)) : Src w v (c.got n) := by
  obtain ⟨A, cp, rfl, h1, h2, h3, h4⟩ := h
  refine ⟨A, cp, rfl, ?_, h3, h1, h2⟩
  by_cases hn : c.has n = true
  · obtain ⟨_, k, rfl, hk⟩ := Cur.has_parts hn
    have hl : (c.got k).length = k := by rw [Cur.got_length hn, Int.toNat_natCast]
    rw [hl] at h4 ⊢
    rcases Nat.eq_zero_or_pos k with h0 | h0
    · subst h0
      have : c.got ((0 : Nat) : Int) = [] := List.eq_nil_of_length_eq_zero hl
      rw [this]
      exact Txt.nil_ _ _
    · obtain ⟨_, rest, hb⟩ := hh.pos (by rw [Cur.take_b]; omega)
      rw [Cur.take_b] at hb
      have := Txt.blk hb c.at_ k hk h4
      rwa [Cur.got, if_pos hn, Int.toNat_natCast]
  · rw [Cur.got_no (by simpa using hn)]
    exact Txt.nil_ _ _

/-- What a reader's Bytes does. -/
def Reads (w : World) (p g : Nat) (c : Cur) (n : Int) (e : Ending) (w' : World) : Prop := ∃ v, e = .returned v ∧ Src w' v (c.got n) ∧ Holds w' p g 55 (c.take n) ∧ Only (fun k => k = p ∨ w.heap.size ≤ k) w w'

set_option maxRecDepth 100000 in
theorem RBytes_c (w : World) (p g : Nat) (c : Cur) (h : Holds w p g 55 c) (n : Int) :
    Calls Try.prog 23 #[.pointer (some ⟨p, 0, none⟩), .int .i64 n] w (Reads w p g c n) := by
  have HL := Lib.hid h
  have HN : Hid ((c.got n).length ≤ 1099511627776) := by
    have := h.wf.len
    show _ ≤ _
    unfold Cur.got
    split <;> simp <;> omega
  clear h
  go_enter Try.func23, Try.ntmps23
  go_wp2_with (first | (go_at_call 28; refine (take_c _ p g _ c HL.out n).mono ?_; rintro e w1 ⟨v, rfl, hv, hh, ho⟩; have HV := Lib.hid (hv.src hh); have HH := Lib.hid hh; have HO := Lib.hid ho; clear hv hh ho) | (go_at_call 32; refine (Clone_c _ _ _ HV.out HN.out).mono ?_; rintro e w2 ⟨v2, rfl, hown, ho2⟩))
  go_ret
  exact ⟨_, rfl, Src.own hown, HH.out.later ho2, (HO.out.mono fun k h => .inl h).trans (ho2.mono fun k h => .inr (Nat.le_trans HO.out.size h))⟩

end Go.Proofs.Ytmkpcdcdhheokaa
