/-
  take, Skip.
-/
import Derived.Test.YtmkpcdcdhheokaaCurs
set_option linter.unusedVariables false
namespace Go.Proofs.Ytmkpcdcdhheokaa
open Go.RowKit

/-- What take gives: k of the cursor's own bytes, from o on. -/
def Own (g o k : Nat) (v : Value) : Prop := ∃ A c, v = .slice A k c ∧ k ≤ c ∧ c ≤ 9223372036854775807 ∧ (A = none → c = 0) ∧ (0 < k → A = some ⟨g, o, none⟩)
/-- What take does. -/
def Took (w : World) (p g : Nat) (T : TypeId) (c : Cur) (n : Int) (e : Ending) (w' : World) : Prop :=
  ∃ v, e = .returned v ∧ Own g c.at_ (c.got n).length v ∧ Holds w' p g T (c.take n) ∧ Only (· = p) w w'

theorem Own.nil_ (g o : Nat) : Own g o 0 (.slice none 0 0) := ⟨none, 0, rfl, Nat.le_refl _, by omega, fun _ => rfl, fun h => absurd h (by decide)⟩

set_option maxRecDepth 100000 in
set_option maxHeartbeats 1600000 in
theorem take_c (w : World) (p g : Nat) (T : TypeId) (c : Cur) (h : Holds w p g T c) (n : Int) :
    Calls Try.prog 28 #[.pointer (some ⟨p, 0, none⟩), .int .i64 n] w (Took w p g T c n) := by
  have HL := Lib.hid h
  by_cases hn : c.has n = true
  · have HH : Hid (∀ W : World, Holds W p g T c → Calls Try.prog 34 #[.pointer (some ⟨p, 0, none⟩), .int .i64 n] W fun e w' => e = .returned (.bool true) ∧ ∃ m, w' = W.drewN m) :=
      fun W hW => (has_c W p g T c hW n).mono fun e w' ⟨h, h'⟩ => ⟨by rw [h, hn], h'⟩
    have HE : Hid (c.take n = { c with at_ := c.at_ + n.toNat }) := by show _ = _; rw [Cur.take, if_pos hn]
    have HG : Hid ((c.got n).length = n.toNat) := Cur.got_length hn
    obtain ⟨hsp, k, rfl, hk⟩ := Cur.has_parts hn
    obtain ⟨A, cap, rest, h⟩ := h
    have H := Lib.hid h
    have h0 : w.cell? ⟨p, 0, none⟩ = some (.slice A c.b.length cap) := h.blk.cell 0
    have h1 : w.cell? ⟨p, 1, none⟩ = some (.int .i64 c.at_) := h.blk.cell 1
    have hfz : ∀ i, w.frozen? ⟨p, i, none⟩ = false := h.blk.frozen
    have hl := h.wf.len
    have hle := h.le
    have hsrc := h.src
    have hmx := h.max
    have HF : Hid (∀ (m q : Nat) (x : Int), x = (c.at_ : Int) + k → Holds (((w.drewN m).setCell ⟨p, 1, none⟩ (.int .i64 x)).drewN q) p g T { c with at_ := c.at_ + k } ∧ Only (· = p) w (((w.drewN m).setCell ⟨p, 1, none⟩ (.int .i64 x)).drewN q)) := by
      rintro m q x rfl
      refine ⟨Holds.drewN (c := { c with at_ := c.at_ + k }) ⟨A, cap, rest, CurIn.set (h.only (F := fun _ => False) ((Only.refl _ w).drewN m) id (fun _ => id)) 1 _ ⟨hk, hl⟩ rfl ?_⟩ q, (((Only.refl (· = p) _).drewN m).setCell rfl _).drewN q⟩
      simp [curOf]
    obtain ⟨a, hae⟩ : ∃ a, a = c.at_ := ⟨_, rfl⟩
    obtain ⟨N, hne⟩ : ∃ N, N = c.b.length := ⟨_, rfl⟩
    have HA := Lib.hid hae
    have HN := Lib.hid hne
    rw [← hne] at h0 hl hk hle
    rw [← hae] at h1 hk
    have b0 : (0 : Int) ≤ (a : Int) := by omega
    have b1 : (a : Int) ≤ (a : Int) + k := by omega
    have b2 : (a : Int) + k ≤ (N : Int) := by omega
    have b5 : (a : Int) + k ≤ (cap : Int) := by omega
    have b3 : (N : Int) ≤ 1099511627776 := by omega
    have b4 : (0 : Int) ≤ (k : Int) := by omega
    have bt : ((a : Int) + k).toNat = a + k := by omega
    rcases hsrc with ⟨rfl, hb, rfl⟩ | ⟨rfl, _, _⟩
    · obtain rfl : N = 0 := by rw [hne, hb]; rfl
      obtain rfl : a = 0 := by omega
      obtain rfl : k = 0 := by omega
      clear hb hne hae hsp hn hk H h bt
      go_enter Try.func28, Try.ntmps28
      go_wp2_with (go_at_call 34; refine (HH.out _ HL.out).mono ?_; rintro e w' ⟨rfl, m, rfl⟩)
      go_quiet (fail)
      go_wp2
      go_ret
      have hf := HF.out m nq 0 (by rw [← HA.out]; rfl)
      refine ⟨_, rfl, ?_, by rw [HE.out, Int.toNat_natCast]; exact hf.1, hf.2⟩
      rw [HG.out]
      exact Own.nil_ _ _
    · by_cases hcap : cap = a
      · obtain rfl : N = a := by omega
        obtain rfl : k = 0 := by omega
        subst hcap
        clear hne hae hsp hn hk H h bt
        go_enter Try.func28, Try.ntmps28
        go_wp2_with (go_at_call 34; refine (HH.out _ HL.out).mono ?_; rintro e w' ⟨rfl, m, rfl⟩)
        go_quiet (fail)
        go_wp2
        go_ret
        have hf := HF.out m nq cap (by rw [← HA.out]; rfl)
        refine ⟨_, rfl, ?_, by rw [HE.out, Int.toNat_natCast]; exact hf.1, hf.2⟩
        rw [HG.out]
        exact ⟨_, _, rfl, Nat.le_refl _, by omega, (fun e => by cases e), fun h => absurd h (by decide)⟩
      · clear hne hae hsp hn hk H h
        go_enter Try.func28, Try.ntmps28
        go_wp2_with (go_at_call 34; refine (HH.out _ HL.out).mono ?_; rintro e w' ⟨rfl, m, rfl⟩)
        go_quiet (fail)
        go_wp2
        go_ret
        have hf := HF.out m nq ((a : Int) + k) (by rw [← HA.out])
        refine ⟨_, rfl, ?_, by rw [HE.out, Int.toNat_natCast]; exact hf.1, hf.2⟩
        rw [HG.out, ← HA.out]
        exact ⟨_, _, rfl, by rw [Int.toNat_natCast]; omega, by omega, (fun e => by cases e), fun h => rfl⟩
  · have hn' : c.has n = false := by simpa using hn
    have HH : Hid (∀ W : World, Holds W p g T c → Calls Try.prog 34 #[.pointer (some ⟨p, 0, none⟩), .int .i64 n] W fun e w' => e = .returned (.bool false) ∧ ∃ m, w' = W.drewN m) :=
      fun W hW => (has_c W p g T c hW n).mono fun e w' ⟨h, h'⟩ => ⟨by rw [h, hn'], h'⟩
    have HE : Hid (c.take n = c.spoil) := by show _ = _; rw [Cur.take, hn']; rfl
    have HG : Hid (c.got n = []) := Cur.got_no hn'
    clear h hn hn'
    go_enter Try.func28, Try.ntmps28
    go_wp2_with (first | (go_at_call 34; refine (HH.out _ HL.out).mono ?_; rintro e w' ⟨rfl, m, rfl⟩) | (go_at_call 27; refine (spoil_c _ p g T c (HL.out.drewN _)).mono ?_; rintro e w' ⟨rfl, hh, ho⟩))
    go_ret
    refine ⟨_, rfl, ?_, ?_, ?_⟩
    · rw [HG.out]; exact Own.nil_ _ _
    · rw [HE.out]; exact hh
    · exact ((Only.refl _ w).drewN _).trans ho

theorem Skip_c (w : World) (p g : Nat) (T : TypeId) (c : Cur) (h : Holds w p g T c) (n : Int) :
    Calls Try.prog 15 #[.pointer (some ⟨p, 0, none⟩), .int .i64 n] w fun e w' => e = .returned (.tuple #[]) ∧ Holds w' p g T (c.take n) ∧ Only (· = p) w w' := by
  have HL := Lib.hid h
  clear h
  go_enter Try.func15, Try.ntmps15
  go_wp2_with (go_at_call 28; refine (take_c _ p g T c HL.out n).mono ?_; rintro e w' ⟨v, rfl, hv, hh, ho⟩)
  go_end0
  exact ⟨rfl, hh, ho⟩

end Go.Proofs.Ytmkpcdcdhheokaa
