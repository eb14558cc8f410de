/-
  A cursor in memory; its own calls.
-/
import Derived.Test.YtmkpcdcdhheokaaTxt
import Derived.Deep.QuietTactic
import Derived.BigQuiet
import Derived.IntWalk
set_option linter.unusedVariables false
namespace Go.Proofs.Ytmkpcdcdhheokaa
open Go.RowKit

def curOf (c : Cur) (A : Option Addr) (cap : Nat) : List Value := [.slice A c.b.length cap, .int .i64 c.at_, .bool c.sp]

structure CurIn (w : World) (p g : Nat) (T : TypeId) (c : Cur) (A : Option Addr) (cap : Nat) (rest : List Value) : Prop where
  wf : c.WF
  blk : Blk w p T (curOf c A cap)
  src : (A = none ∧ c.b = [] ∧ cap = 0) ∨ (A = some ⟨g, 0, none⟩ ∧ g ≠ p ∧ Blk w g 5 (cb c.b ++ rest))
  le : c.b.length ≤ cap
  max : cap ≤ 9223372036854775807

/-- The cursor c is what stands in block p, its bytes in block g. -/
def Holds (w : World) (p g : Nat) (T : TypeId) (c : Cur) : Prop := ∃ A cap rest, CurIn w p g T c A cap rest

/-- The blocks of a cursor. -/
def Foot (p g k : Nat) : Prop := k = p ∨ k = g

section
variable {w w' : World} {p g : Nat} {T : TypeId} {c c' : Cur} {A : Option Addr} {cap : Nat} {rest : List Value} {F : Nat → Prop}
theorem CurIn.only (h : CurIn w p g T c A cap rest) (ho : Only F w w') (hp : ¬ F p) (hg : A = some ⟨g, 0, Option.none⟩ → ¬ F g) : CurIn w' p g T c A cap rest := by
  refine ⟨h.wf, h.blk.only ho hp, ?_, h.le, h.max⟩
  rcases h.src with h1 | ⟨h1, h2, h3⟩
  · exact .inl h1
  · exact .inr ⟨h1, h2, h3.only ho (hg h1)⟩
theorem Holds.wf (h : Holds w p g T c) : c.WF := by obtain ⟨A, cap, rest, h⟩ := h; exact h.wf
theorem Holds.lt (h : Holds w p g T c) : p < w.heap.size := by obtain ⟨A, cap, rest, h⟩ := h; exact h.blk.lt
theorem Holds.only (h : Holds w p g T c) (ho : Only F w w') (hF : ∀ k, Foot p g k → k < w.heap.size → ¬ F k) : Holds w' p g T c := by
  obtain ⟨A, cap, rest, h⟩ := h
  refine ⟨A, cap, rest, h.only ho (hF p (.inl rfl) h.blk.lt) fun e => ?_⟩
  rcases h.src with ⟨h1, _⟩ | ⟨h1, h2, h3⟩
  · rw [h1] at e; cases e
  · exact hF g (.inr rfl) h3.lt
theorem Holds.later (h : Holds w p g T c) (ho : Only (w.heap.size ≤ ·) w w') : Holds w' p g T c := h.only ho fun k _ h1 h2 => by omega
theorem Holds.drewN (h : Holds w p g T c) (n : Nat) : Holds (w.drewN n) p g T c := h.only (F := fun _ => False) ((Only.refl _ w).drewN n) fun _ _ _ h => h
theorem Holds.pos {w : World} {p g : Nat} {T : TypeId} {c : Cur} (h : Holds w p g T c) (hb : 0 < c.b.length) : g ≠ p ∧ ∃ rest, Blk w g 5 (cb c.b ++ rest) := by
  obtain ⟨A, cap, rest, h⟩ := h
  rcases h.src with ⟨_, h2, _⟩ | ⟨_, h2, h3⟩
  · rw [h2] at hb; exact absurd hb (by decide)
  · exact ⟨h2, rest, h3⟩
/-- A field that is no slice. -/
theorem CurIn.set (h : CurIn w p g T c A cap rest) (i : Nat) (v : Value) (hw : c'.WF) (hb : c'.b = c.b) (hf : curOf c' A cap = (curOf c A cap).set i v) : CurIn (w.setCell ⟨p, i, Option.none⟩ v) p g T c' A cap rest := by
  refine ⟨hw, by rw [hf]; exact h.blk.set_ i v, ?_, by rw [hb]; exact h.le, h.max⟩
  rcases h.src with h1 | ⟨h1, h2, h3⟩
  · exact .inl (by rw [hb]; exact h1)
  · exact .inr ⟨h1, h2, by rw [hb]; exact h3.far h2 v⟩
end

theorem left_c (w : World) (p g : Nat) (T : TypeId) (c : Cur) (h : Holds w p g T c) :
    Calls Try.prog 36 #[.pointer (some ⟨p, 0, none⟩)] w fun e w' => e = .returned (.int .i64 c.left) ∧ ∃ n, w' = w.drewN n := by
  obtain ⟨A, cap, rest, h⟩ := h
  have h0 : w.cell? ⟨p, 0, none⟩ = some (.slice A c.b.length cap) := h.blk.cell 0
  have h1 : w.cell? ⟨p, 1, none⟩ = some (.int .i64 c.at_) := h.blk.cell 1
  have hl := h.wf.len
  have ha := h.wf.at_
  obtain ⟨a, hae⟩ : ∃ a, a = c.at_ := ⟨_, rfl⟩
  obtain ⟨n, hne⟩ : ∃ n, n = c.b.length := ⟨_, rfl⟩
  have E : Hid (c.left = (n : Int) - a) := by show _ = _; rw [hne, hae]; rfl
  rw [← hne] at h0 hl ha
  rw [← hae] at h1 ha
  clear hne hae h
  have hw : IntKind.i64.wrap ((n : Int) - (a : Int)) = (n : Int) - a := IntWalk.i64_in _ (by omega)
  clear hl ha
  go_enter Try.func36, Try.ntmps36
  go_wp2_with (fail)
  go_quiet (fail)
  go_wp2
  go_ret
  rw [E.out]
  exact ⟨rfl, _, rfl⟩

theorem At_c (w : World) (p g : Nat) (T : TypeId) (c : Cur) (h : Holds w p g T c) :
    Calls Try.prog 18 #[.pointer (some ⟨p, 0, none⟩)] w fun e w' => e = .returned (.int .i64 c.at_) ∧ w = w' := by
  obtain ⟨A, cap, rest, h⟩ := h
  have h1 : w.cell? ⟨p, 1, none⟩ = some (.int .i64 c.at_) := h.blk.cell 1
  clear h
  go_enter Try.func18, Try.ntmps18
  go_wp2
  go_ret
  exact ⟨rfl, rfl⟩

theorem err_c (w : World) (p g : Nat) (T : TypeId) (c : Cur) (h : Holds w p g T c) :
    Calls Try.prog 31 #[.pointer (some ⟨p, 0, none⟩)] w fun e w' => e = .returned (.int .i64 c.err) ∧ w = w' := by
  obtain ⟨A, cap, rest, h⟩ := h
  have h2 : w.cell? ⟨p, 2, none⟩ = some (.bool c.sp) := h.blk.cell 2
  clear h
  obtain ⟨b, a, sp⟩ := c
  cases sp <;>
    (go_enter Try.func31, Try.ntmps31
     go_wp2
     go_ret
     exact ⟨rfl, rfl⟩)

theorem spoil_c (w : World) (p g : Nat) (T : TypeId) (c : Cur) (h : Holds w p g T c) :
    Calls Try.prog 27 #[.pointer (some ⟨p, 0, none⟩)] w fun e w' => e = .returned (.tuple #[]) ∧ Holds w' p g T c.spoil ∧ Only (· = p) w w' := by
  obtain ⟨A, cap, rest, h⟩ := h
  have h2 : w.cell? ⟨p, 2, none⟩ = some (.bool c.sp) := h.blk.cell 2
  have hfz : ∀ i, w.frozen? ⟨p, i, none⟩ = false := h.blk.frozen
  have H := Lib.hid h
  clear h
  go_enter Try.func27, Try.ntmps27
  go_wp2
  go_end0
  exact ⟨rfl, ⟨A, cap, rest, H.out.set 2 _ H.out.wf.spoil rfl rfl⟩, (Only.refl (· = p) _).setCell rfl _⟩

theorem has_c (w : World) (p g : Nat) (T : TypeId) (c : Cur) (h : Holds w p g T c) (n : Int) :
    Calls Try.prog 34 #[.pointer (some ⟨p, 0, none⟩), .int .i64 n] w fun e w' => e = .returned (.bool (c.has n)) ∧ ∃ m, w' = w.drewN m := by
  have HL := Lib.hid h
  obtain ⟨A, cap, rest, h⟩ := h
  have h2 : w.cell? ⟨p, 2, none⟩ = some (.bool c.sp) := h.blk.cell 2
  clear h
  by_cases hs : c.sp = true
  · have E : Hid (c.has n = false) := by show _ = _; simp [Cur.has, hs]
    rw [hs] at h2
    clear hs
    go_enter Try.func34, Try.ntmps34
    go_wp2
    go_ret
    rw [E.out]
    exact ⟨rfl, 0, rfl⟩
  · have hs' : c.sp = false := by simpa using hs
    rw [hs'] at h2
    by_cases h0 : 0 ≤ n
    · have E : Hid (c.has n = decide (n ≤ c.left)) := by show _ = _; unfold Cur.has Cur.left; rw [hs', decide_eq_true h0]; rfl
      clear hs hs'
      go_enter Try.func34, Try.ntmps34
      go_wp2_with (go_at_call 36; refine (left_c _ p g T c HL.out).mono ?_; rintro e w' ⟨rfl, m, rfl⟩)
      go_ret
      rw [E.out]
      exact ⟨rfl, _, rfl⟩
    · have E : Hid (c.has n = false) := by show _ = _; simp [Cur.has, h0]
      clear hs hs'
      go_enter Try.func34, Try.ntmps34
      go_wp2
      go_ret
      rw [E.out]
      exact ⟨rfl, 0, rfl⟩
end Go.Proofs.Ytmkpcdcdhheokaa
