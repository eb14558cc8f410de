/-
  NewWriter, NewReader, Done.
-/
import Derived.Test.YtmkpcdcdhheokaaLaws
import Derived.Test.YtmkpcdcdhheokaaTake
import Derived.Laws.MakeOwn
import Derived.Lib.MakeNoZero
set_option linter.unusedVariables false
namespace Go.Proofs.Ytmkpcdcdhheokaa
open Go.RowKit

theorem made8 (k : Nat) : madeCells (z8).cells k = (List.replicate k z8).toArray := by
  unfold madeCells
  apply Array.ext
  · simp
  · intro i h1 h2
    simp [Value.cells, z8, Nat.mod_one]
theorem run_make8 (n : Nat) (hn : n ≤ 65536) (W : World) : (Instr.makeSlice 27 (.int .i64 (n : Int)) (.int .i64 (n : Int))).run Try.prog W = .ok (.slice (some ⟨W.heap.size, 0, none⟩) n n) (W.alloc (.cells (List.replicate n z8).toArray 5)) := by
  obtain ⟨i0, hi0, hz0, hz1, hz2⟩ := info_parts info8
  have hr := run_make (P := Try.prog) W 27 5 i0 _ Try.underlying27 hi0 hz0 .i64 .i64 (n : Int) (n : Int) (by omega) (by omega) (by rw [hz2]; omega) (by omega)
  simp only [Int.toNat_natCast] at hr
  rw [made8, hz1, Nat.mul_one] at hr
  exact hr

theorem made_holds (w : World) (T : TypeId) (n : Nat) (hn : n ≤ 65536) : Holds ((w.alloc (.cells (List.replicate n z8).toArray 5)).alloc (.cells #[.slice (some ⟨w.heap.size, 0, none⟩) n n, .int .i64 0, .bool false] T)) (w.heap.size + 1) w.heap.size T (Cur.new (List.replicate n 0)) := by
  have h1 := Blk.new w 5 (List.replicate n z8)
  have h2 := Blk.new (w.alloc (.cells (List.replicate n z8).toArray 5)) T [.slice (some ⟨w.heap.size, 0, none⟩) n n, .int .i64 0, .bool false]
  have hs : (w.alloc (.cells (List.replicate n z8).toArray 5)).heap.size = w.heap.size + 1 := by simp
  rw [hs] at h2
  refine ⟨some ⟨w.heap.size, 0, none⟩, n, [], ⟨Nat.zero_le _, by simp [Cur.new]; omega⟩, ?_, .inr ⟨rfl, by omega, ?_⟩, by simp [Cur.new], by omega⟩
  · simpa [curOf, Cur.new] using h2
  · have := h1.alloc (.cells #[.slice (some ⟨w.heap.size, 0, none⟩) n n, .int .i64 0, .bool false] T)
    simpa [Cur.new, cb_replicate, z8] using this

/-- What a New gives: a cursor of its own. -/
def Made (w : World) (T : TypeId) (c : Cur) (e : Ending) (w' : World) : Prop := ∃ p g, e = .returned (.pointer (some ⟨p, 0, none⟩)) ∧ w.heap.size ≤ p ∧ w.heap.size ≤ g ∧ Holds w' p g T c ∧ Only (w.heap.size ≤ ·) w w' ∧ g < w'.heap.size

set_option maxRecDepth 100000 in
theorem NewWriter_c (w : World) (n : Int) :
    Calls Try.prog 9 #[.int .i64 n] w (Made w 41 (Cur.make n)) := by
  by_cases h : 0 ≤ n ∧ n ≤ 65536
  · obtain ⟨h0, h1⟩ := h
    obtain ⟨m, rfl⟩ : ∃ m : Nat, n = m := ⟨n.toNat, by omega⟩
    have hm : m ≤ 65536 := by omega
    have E : Hid (Cur.make (m : Int) = Cur.new (List.replicate m 0)) := by show _ = _; rw [Cur.make, size, if_pos ⟨h0, h1⟩, Int.toNat_natCast]
    have hmk := run_make8 m hm
    have HM := Lib.hid (made_holds w 41 m hm)
    go_enter Try.func9, Try.ntmps9
    go_wp2
    go_ret
    refine ⟨w.heap.size + 1, w.heap.size, by simp, by omega, Nat.le_refl _, by rw [E.out]; exact HM.out, ((Only.refl _ w).alloc (fun _ h => h) _).alloc (fun _ h => h) _, by simp; omega⟩
  · have E : Hid (Cur.make n = Cur.new (List.replicate 0 0)) := by show _ = _; rw [Cur.make, size, if_neg h]
    have hmk : ∀ W : World, (Instr.makeSlice 27 (.int .i64 0) (.int .i64 0)).run Try.prog W = .ok (.slice (some ⟨W.heap.size, 0, none⟩) 0 0) (W.alloc (.cells #[] 5)) := fun W => by simpa using run_make8 0 (by omega) W
    have HM := Lib.hid (made_holds w 41 0 (by omega))
    by_cases h0 : 0 ≤ n
    · have h1 : ¬ n ≤ 65536 := fun h1 => h ⟨h0, h1⟩
      clear h
      go_enter Try.func9, Try.ntmps9
      go_wp2
      go_ret
      refine ⟨w.heap.size + 1, w.heap.size, by simp, by omega, Nat.le_refl _, by rw [E.out]; exact HM.out, ((Only.refl _ w).alloc (fun _ h => h) _).alloc (fun _ h => h) _, by simp; omega⟩
    · clear h
      go_enter Try.func9, Try.ntmps9
      go_wp2
      go_ret
      refine ⟨w.heap.size + 1, w.heap.size, by simp, by omega, Nat.le_refl _, by rw [E.out]; exact HM.out, ((Only.refl _ w).alloc (fun _ h => h) _).alloc (fun _ h => h) _, by simp; omega⟩

theorem own_holds {w w1 : World} {v : Value} {xs : Bytes} (T : TypeId) (h : w1.ownsRow w.heap.size 5 1 v xs.length (cb xs)) (hn : xs.length ≤ 1099511627776) (ho : Only (w.heap.size ≤ ·) w w1) :
    ∃ g, w.heap.size ≤ g ∧ g < w1.heap.size + 1 ∧ Holds (w1.alloc (.cells #[v, .int .i64 0, .bool false] T)) w1.heap.size g T (Cur.new xs) := by
  have h2 := Blk.new w1 T [v, .int .i64 0, .bool false]
  rcases h.2 with ⟨rfl, h0⟩ | ⟨g, cap, cur, rfl, hb, hg, hc, hm, hcs, htake⟩
  · obtain rfl : xs = [] := List.eq_nil_of_length_eq_zero h0
    exact ⟨w1.heap.size, ho.size, Nat.lt_succ_self _, none, 0, [], ⟨Nat.zero_le _, by simp [Cur.new]⟩, h2, .inl ⟨rfl, rfl, rfl⟩, Nat.le_refl _, by omega⟩
  · have hlt : g < w1.heap.size := (Array.getElem?_eq_some_iff.1 hg).1
    have hcur : cb xs ++ cur.toList.drop (xs.length * 1) = cur.toList := by rw [← htake]; exact List.take_append_drop _ _
    refine ⟨g, hb, Nat.lt_succ_of_lt hlt, some ⟨g, 0, none⟩, cap, cur.toList.drop (xs.length * 1), ⟨Nat.zero_le _, by simpa [Cur.new] using hn⟩, h2, .inr ⟨rfl, by omega, ?_⟩, hc, by simp only [maxLen] at hm; omega⟩
    show Blk _ g 5 (cb xs ++ cur.toList.drop (xs.length * 1))
    rw [hcur]
    refine Blk.alloc ?_ _
    unfold Blk
    rw [Array.toArray_toList]
    exact hg

set_option maxRecDepth 100000 in
theorem NewReader_c (w : World) (v : Value) (xs : Bytes) (h : Src w v xs) (hn : xs.length ≤ 1099511627776) :
    Calls Try.prog 21 #[v] w (Made w 55 (Cur.new xs)) := by
  have H := Lib.hid h
  clear h
  go_enter Try.func21, Try.ntmps21
  go_wp2_with (go_at_call 32; refine (Clone_c _ v xs H.out hn).mono ?_; rintro e w' ⟨v', rfl, hown, ho⟩; obtain ⟨A', c', rfl, _⟩ := Src.own hown)
  go_ret
  obtain ⟨g, hg, hg2, hh⟩ := own_holds 55 hown hn ho
  exact ⟨_, g, rfl, ho.size, hg, hh, ho.alloc (fun _ h => h) _, by simpa using hg2⟩

/-- What Done tells. -/
def Cur.out (c : Cur) : Bytes := if c.sp = true then [] else c.b
theorem Holds.src {w : World} {p g : Nat} {T : TypeId} {c : Cur} (h : Holds w p g T c) : ∃ v, w.cell? ⟨p, 0, none⟩ = some v ∧ Src w v c.b := by
  obtain ⟨A, cap, rest, h⟩ := h
  refine ⟨_, h.blk.cell 0, A, cap, rfl, ?_, ?_, h.le, h.max⟩
  · rcases h.src with ⟨rfl, hb, _⟩ | ⟨rfl, _, hb⟩
    · rw [hb]; exact Txt.nil_ _ _
    · have := Txt.blk hb 0 c.b.length (by omega) (A := some ⟨g, 0, none⟩) (fun _ => rfl)
      simpa using this
  · intro e
    rcases h.src with ⟨_, _, h1⟩ | ⟨h1, _⟩
    · exact h1
    · rw [e] at h1; cases h1

set_option maxRecDepth 100000 in
theorem Done_c (w : World) (p g : Nat) (c : Cur) (h : Holds w p g 41 c) :
    Calls Try.prog 17 #[.pointer (some ⟨p, 0, none⟩)] w fun e w' => ∃ v, e = .returned (.tuple #[v, .int .i64 c.err]) ∧ Src w' v c.out ∧ Only (w.heap.size ≤ ·) w w' := by
  have HL := Lib.hid h
  have hlen := h.wf.len
  obtain ⟨v, hv, hs⟩ := h.src
  have HS := Lib.hid hs
  clear h hs
  by_cases hsp : c.sp = true
  · have E : Hid (c.err = 30) := by show _ = _; rw [Cur.err, if_pos hsp]
    have E2 : Hid (c.out = []) := by show _ = _; rw [Cur.out, if_pos hsp]
    have HC : Hid (∀ W : World, Holds W p g 41 c → Calls Try.prog 31 #[.pointer (some ⟨p, 0, none⟩)] W fun e w' => e = .returned (.int .i64 30) ∧ W = w') := fun W hW => (err_c W p g _ c hW).mono fun e w' ⟨h, h'⟩ => ⟨by rw [h, E.out], h'⟩
    clear hsp
    go_enter Try.func17, Try.ntmps17
    go_wp2_with (go_at_call 31; refine (HC.out _ HL.out).mono ?_; rintro e w' ⟨rfl, rfl⟩)
    go_ret2
    rw [E.out, E2.out]
    exact ⟨_, rfl, Src.nil_ _, Only.refl _ _⟩
  · have E : Hid (c.err = 0) := by show _ = _; rw [Cur.err, if_neg hsp]
    have E2 : Hid (c.out = c.b) := by show _ = _; rw [Cur.out, if_neg hsp]
    have HC : Hid (∀ W : World, Holds W p g 41 c → Calls Try.prog 31 #[.pointer (some ⟨p, 0, none⟩)] W fun e w' => e = .returned (.int .i64 0) ∧ W = w') := fun W hW => (err_c W p g _ c hW).mono fun e w' ⟨h, h'⟩ => ⟨by rw [h, E.out], h'⟩
    clear hsp
    go_enter Try.func17, Try.ntmps17
    go_wp2_with (first | (go_at_call 31; refine (HC.out _ HL.out).mono ?_; rintro e w' ⟨rfl, rfl⟩) | (go_at_call 32; refine (Clone_c _ v c.b HS.out hlen).mono ?_; rintro e w' ⟨v', rfl, hown, ho⟩))
    go_ret2
    rw [E.out, E2.out]
    exact ⟨_, rfl, Src.own hown, ho⟩
end Go.Proofs.Ytmkpcdcdhheokaa
