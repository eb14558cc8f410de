/-
  Several texts, as one.
-/
import Derived.Test.YtbpldkhgiddmlaaGreatDoorGa
import Derived.Laws.AppendOwnNone
import Derived.Laws.BytesArg
import Derived.OwnWalk
import Derived.WalkSpells
import Derived.IntWalk
import Derived.Deep.QuietTactic
import Derived.BigQuiet
import Derived.Laws.MakeOwn
import Derived.Lib.MakeNoZero
import Derived.Laws.CopyOwn
import Derived.Outline
import Derived.Laws.BitsAllLaws
import Derived.Laws.BitsLemmas
/-
  slices.Clone of bytes.
-/
set_option linter.unusedVariables false
namespace Go.Proofs.YtbpldkhgiddmlaaGreatDoor
open Go.RowKit

set_option maxRecDepth 100000 in
set_option maxHeartbeats 800000 in
theorem SClone_c (w : World) (v : Value) (xs : Bytes) (h : Src w v xs) (hn : xs.length ≤ 1099511627776) :
    Calls Tryz.prog 102 #[v] w fun e w' => ∃ v', e = .returned v' ∧ w'.ownsRow w.heap.size 5 1 v' xs.length (cb xs) ∧ Only (w.heap.size ≤ ·) w w' := by
  obtain ⟨i0, hi0, hz0, hz1, hz2⟩ := info_parts info8
  have hnil := fun (W : World) (a : Option Addr) (n c : Nat) => Lib.run_eql_slice_nil (P := Tryz.prog) W 22 5 a n c 0 0 Tryz.underlying22
  obtain ⟨A, c, rfl, ht, hA, hc, hm⟩ := h
  obtain ⟨n, hne⟩ : ∃ n, n = xs.length := ⟨_, rfl⟩
  have Hl : Hid ((cb xs).length = n * 1) := by show _ = _; rw [cb_length, ← hne, Nat.mul_one]
  rw [← hne] at ht hc hn ⊢
  cases A with
  | none =>
    obtain rfl := hA rfl
    obtain rfl : n = 0 := by omega
    obtain rfl : xs = [] := List.eq_nil_of_length_eq_zero ht.1
    clear Hl hne ht
    go_enter Tryz.func102, Tryz.ntmps102
    go_wp2
    go_ret
    exact ⟨_, rfl, World.ownsRow_nil _ _ _ _, Only.refl _ _⟩
  | some ad =>
    have Ho : Hid (((w.alloc (.cells #[] 5)).drew.ownsRow w.heap.size 5 1 (.slice (some ⟨w.heap.size, 0, none⟩) 0 0) 0 []) ∧ (w.alloc (.cells #[] 5)).ownsRow w.heap.size 5 1 (.slice (some ⟨w.heap.size, 0, none⟩) 0 0) 0 []) := by
      have h := World.ownsRow_made (size := 1) (base := w.heap.size) (e := 5) w #[] 0 (Nat.le_refl _) (by simp [maxLen]) (by simp)
      exact ⟨h, h⟩
    have Hc : Hid (∀ j u, (cb xs)[j]? = some u → (w.alloc (.cells #[] 5)).cell? (ad.add j) = some u) := fun j u hu => (ht.later ((Only.refl _ w).alloc (fun _ h => h) _)).src ad rfl j u hu
    clear ht hA hne
    go_enter Tryz.func102, Tryz.ntmps102
    go_wp2_with (at_builtin; refine wpList_append_own _ rfl (.tmp 5) (.tmp 6) 22 rfl w.heap.size 5 i0 _ 1 1 Tryz.underlying22 hi0 hz0 hz1 hz2 (by rfl) (by omega) _ _ _ rfl Ho.out.2 ad n c (cb xs) rfl Hl.out Hc.out (cb_one _) (by simp only [maxLen]; omega) (by omega) (by simp) ?_; intro v' w' ho' hg' _)
    go_ret
    exact ⟨_, rfl, by simpa using ho', (((Only.refl _ w).alloc (fun _ h => h) _).grown hg' (fun _ h => h) (fun k hk => by injection hk with hk; exact Nat.le_of_eq hk))⟩

end Go.Proofs.YtbpldkhgiddmlaaGreatDoor

/-
  A cursor in memory; its own calls.
-/
set_option linter.unusedVariables false
namespace Go.Proofs.YtbpldkhgiddmlaaGreatDoor
open Go.RowKit

def curOf (c : Cur) (A : Option Addr) (cap : Nat) : List Value := [.slice A c.b.length cap, .int .i64 c.at_, .bool c.sp]

structure CurIn (w : World) (p g : Nat) (T : TypeId) (c : Cur) (A : Option Addr) (cap : Nat) (rest : List Value) : Prop where
  wf : c.WF
  blk : Blk w p T (curOf c A cap)
  src : (A = none ∧ c.b = [] ∧ cap = 0) ∨ (A = some ⟨g, 0, none⟩ ∧ g ≠ p ∧ Blk w g 5 (cb c.b ++ rest))
  le : c.b.length ≤ cap
  max : cap ≤ 9223372036854775807

/-- The cursor c is what stands in block p, its bytes in block g. -/
def Holds (w : World) (p g : Nat) (T : TypeId) (c : Cur) : Prop := ∃ A cap rest, CurIn w p g T c A cap rest

/-- The blocks of a cursor. -/
def Foot (p g k : Nat) : Prop := k = p ∨ k = g

section
variable {w w' : World} {p g : Nat} {T : TypeId} {c c' : Cur} {A : Option Addr} {cap : Nat} {rest : List Value} {F : Nat → Prop}
theorem CurIn.only (h : CurIn w p g T c A cap rest) (ho : Only F w w') (hp : ¬ F p) (hg : A = some ⟨g, 0, Option.none⟩ → ¬ F g) : CurIn w' p g T c A cap rest := by
  refine ⟨h.wf, h.blk.only ho hp, ?_, h.le, h.max⟩
  rcases h.src with h1 | ⟨h1, h2, h3⟩
  · exact .inl h1
  · exact .inr ⟨h1, h2, h3.only ho (hg h1)⟩
theorem Holds.wf (h : Holds w p g T c) : c.WF := by obtain ⟨A, cap, rest, h⟩ := h; exact h.wf
theorem Holds.lt (h : Holds w p g T c) : p < w.heap.size := by obtain ⟨A, cap, rest, h⟩ := h; exact h.blk.lt
theorem Holds.only (h : Holds w p g T c) (ho : Only F w w') (hF : ∀ k, Foot p g k → k < w.heap.size → ¬ F k) : Holds w' p g T c := by
  obtain ⟨A, cap, rest, h⟩ := h
  refine ⟨A, cap, rest, h.only ho (hF p (.inl rfl) h.blk.lt) fun e => ?_⟩
  rcases h.src with ⟨h1, _⟩ | ⟨h1, h2, h3⟩
  · rw [h1] at e; cases e
  · exact hF g (.inr rfl) h3.lt
theorem Holds.later (h : Holds w p g T c) (ho : Only (w.heap.size ≤ ·) w w') : Holds w' p g T c := h.only ho fun k _ h1 h2 => by omega
theorem Holds.drewN (h : Holds w p g T c) (n : Nat) : Holds (w.drewN n) p g T c := h.only (F := fun _ => False) ((Only.refl _ w).drewN n) fun _ _ _ h => h
theorem Holds.pos {w : World} {p g : Nat} {T : TypeId} {c : Cur} (h : Holds w p g T c) (hb : 0 < c.b.length) : g ≠ p ∧ ∃ rest, Blk w g 5 (cb c.b ++ rest) := by
  obtain ⟨A, cap, rest, h⟩ := h
  rcases h.src with ⟨_, h2, _⟩ | ⟨_, h2, h3⟩
  · rw [h2] at hb; exact absurd hb (by decide)
  · exact ⟨h2, rest, h3⟩
/-- A field that is no slice. -/
theorem CurIn.set (h : CurIn w p g T c A cap rest) (i : Nat) (v : Value) (hw : c'.WF) (hb : c'.b = c.b) (hf : curOf c' A cap = (curOf c A cap).set i v) : CurIn (w.setCell ⟨p, i, Option.none⟩ v) p g T c' A cap rest := by
  refine ⟨hw, by rw [hf]; exact h.blk.set_ i v, ?_, by rw [hb]; exact h.le, h.max⟩
  rcases h.src with h1 | ⟨h1, h2, h3⟩
  · exact .inl (by rw [hb]; exact h1)
  · exact .inr ⟨h1, h2, by rw [hb]; exact h3.far h2 v⟩
end

theorem left_c (w : World) (p g : Nat) (T : TypeId) (c : Cur) (h : Holds w p g T c) :
    Calls Tryz.prog 118 #[.pointer (some ⟨p, 0, none⟩)] w fun e w' => e = .returned (.int .i64 c.left) ∧ ∃ n, w' = w.drewN n := by
  obtain ⟨A, cap, rest, h⟩ := h
  have h0 : w.cell? ⟨p, 0, none⟩ = some (.slice A c.b.length cap) := h.blk.cell 0
  have h1 : w.cell? ⟨p, 1, none⟩ = some (.int .i64 c.at_) := h.blk.cell 1
  have hl := h.wf.len
  have ha := h.wf.at_
  obtain ⟨a, hae⟩ : ∃ a, a = c.at_ := ⟨_, rfl⟩
  obtain ⟨n, hne⟩ : ∃ n, n = c.b.length := ⟨_, rfl⟩
  have E : Hid (c.left = (n : Int) - a) := by show _ = _; rw [hne, hae]; rfl
  rw [← hne] at h0 hl ha
  rw [← hae] at h1 ha
  clear hne hae h
  have hw : IntKind.i64.wrap ((n : Int) - (a : Int)) = (n : Int) - a := IntWalk.i64_in _ (by omega)
  clear hl ha
  go_enter Tryz.func118, Tryz.ntmps118
  go_wp2_with (fail)
  go_quiet (fail)
  go_wp2
  go_ret
  rw [E.out]
  exact ⟨rfl, _, rfl⟩

theorem err_c (w : World) (p g : Nat) (T : TypeId) (c : Cur) (h : Holds w p g T c) :
    Calls Tryz.prog 101 #[.pointer (some ⟨p, 0, none⟩)] w fun e w' => e = .returned (.int .i64 c.err) ∧ w = w' := by
  obtain ⟨A, cap, rest, h⟩ := h
  have h2 : w.cell? ⟨p, 2, none⟩ = some (.bool c.sp) := h.blk.cell 2
  clear h
  obtain ⟨b, a, sp⟩ := c
  cases sp <;>
    (go_enter Tryz.func101, Tryz.ntmps101
     go_wp2
     go_ret
     exact ⟨rfl, rfl⟩)

theorem spoil_c (w : World) (p g : Nat) (T : TypeId) (c : Cur) (h : Holds w p g T c) :
    Calls Tryz.prog 99 #[.pointer (some ⟨p, 0, none⟩)] w fun e w' => e = .returned (.tuple #[]) ∧ Holds w' p g T c.spoil ∧ Only (· = p) w w' := by
  obtain ⟨A, cap, rest, h⟩ := h
  have h2 : w.cell? ⟨p, 2, none⟩ = some (.bool c.sp) := h.blk.cell 2
  have hfz : ∀ i, w.frozen? ⟨p, i, none⟩ = false := h.blk.frozen
  have H := Lib.hid h
  clear h
  go_enter Tryz.func99, Tryz.ntmps99
  go_wp2
  go_end0
  exact ⟨rfl, ⟨A, cap, rest, H.out.set 2 _ H.out.wf.spoil rfl rfl⟩, (Only.refl (· = p) _).setCell rfl _⟩

theorem curhas_c (w : World) (p g : Nat) (T : TypeId) (c : Cur) (h : Holds w p g T c) (n : Int) :
    Calls Tryz.prog 113 #[.pointer (some ⟨p, 0, none⟩), .int .i64 n] w fun e w' => e = .returned (.bool (c.has n)) ∧ ∃ m, w' = w.drewN m := by
  have HL := Lib.hid h
  obtain ⟨A, cap, rest, h⟩ := h
  have h2 : w.cell? ⟨p, 2, none⟩ = some (.bool c.sp) := h.blk.cell 2
  clear h
  by_cases hs : c.sp = true
  · have E : Hid (c.has n = false) := by show _ = _; simp [Cur.has, hs]
    rw [hs] at h2
    clear hs
    go_enter Tryz.func113, Tryz.ntmps113
    go_wp2
    go_ret
    rw [E.out]
    exact ⟨rfl, 0, rfl⟩
  · have hs' : c.sp = false := by simpa using hs
    rw [hs'] at h2
    by_cases h0 : 0 ≤ n
    · have E : Hid (c.has n = decide (n ≤ c.left)) := by show _ = _; unfold Cur.has Cur.left; rw [hs', decide_eq_true h0]; rfl
      clear hs hs'
      go_enter Tryz.func113, Tryz.ntmps113
      go_wp2_with (go_at_call 118; refine (left_c _ p g T c HL.out).mono ?_; rintro e w' ⟨rfl, m, rfl⟩)
      go_ret
      rw [E.out]
      exact ⟨rfl, _, rfl⟩
    · have E : Hid (c.has n = false) := by show _ = _; simp [Cur.has, h0]
      clear hs hs'
      go_enter Tryz.func113, Tryz.ntmps113
      go_wp2
      go_ret
      rw [E.out]
      exact ⟨rfl, 0, rfl⟩
end Go.Proofs.YtbpldkhgiddmlaaGreatDoor

/-
  isWidth, Fits; the document's Fits.
-/
set_option linter.unusedVariables false
namespace Go.Proofs.YtbpldkhgiddmlaaGreatDoor
open Go.RowKit

theorem isWidth_c (w : World) (n : Int) :
    Calls Tryz.prog 114 #[.int .i64 n] w fun e w' => e = .returned (.bool (wide n)) ∧ w = w' := by
  by_cases h : 1 ≤ n
  · have E : Hid (wide n = decide (n ≤ 8)) := by show _ = _; rw [wide, decide_eq_true h]; rfl
    go_enter Tryz.func114, Tryz.ntmps114
    go_wp2
    go_ret
    rw [E.out]
    exact ⟨rfl, rfl⟩
  · have E : Hid (wide n = false) := by show _ = _; rw [wide, decide_eq_false h]; rfl
    go_enter Tryz.func114, Tryz.ntmps114
    go_wp2
    go_ret
    rw [E.out]
    exact ⟨rfl, rfl⟩

theorem width_cases {k : Int} (h : wide k = true) : k = 1 ∨ k = 2 ∨ k = 3 ∨ k = 4 ∨ k = 5 ∨ k = 6 ∨ k = 7 ∨ k = 8 := by
  simp only [wide, Bool.and_eq_true, decide_eq_true_eq] at h
  omega

set_option maxHeartbeats 1600000 in
theorem Fits_c (w : World) (n k : Int) (h1 : -9223372036854775808 ≤ n) (h2 : n ≤ 9223372036854775807) :
    Calls Tryz.prog 98 #[.int .i64 n, .int .i64 k] w fun e w' => e = .returned (.bool (fits n k)) ∧ w = w' := by
  by_cases hk : wide k = true
  · have HW : Hid (∀ W : World, Calls Tryz.prog 114 #[.int .i64 k] W fun e w' => e = .returned (.bool true) ∧ W = w') := fun W => (isWidth_c W k).mono fun e w' ⟨h, h'⟩ => ⟨by rw [h, hk], h'⟩
    by_cases hn : 0 ≤ n
    · have E : Hid (fits n k = decide (n / 256 ^ k.toNat = 0)) := by show _ = _; rw [fits, hk, decide_eq_true hn]; rfl
      rcases width_cases hk with rfl | rfl | rfl | rfl | rfl | rfl | rfl | rfl
      all_goals
        clear hk
        go_enter Tryz.func98, Tryz.ntmps98
        go_wp2_with (go_at_call 114; refine (HW.out _).mono ?_; rintro e w' ⟨rfl, rfl⟩)
        go_ret
        rw [E.out]
        exact ⟨rfl, rfl⟩
    · have E : Hid (fits n k = false) := by show _ = _; rw [fits, hk, decide_eq_false hn]; rfl
      clear hk
      go_enter Tryz.func98, Tryz.ntmps98
      go_wp2_with (go_at_call 114; refine (HW.out _).mono ?_; rintro e w' ⟨rfl, rfl⟩)
      go_ret
      rw [E.out]
      exact ⟨rfl, rfl⟩
  · have HW : Hid (∀ W : World, Calls Tryz.prog 114 #[.int .i64 k] W fun e w' => e = .returned (.bool false) ∧ W = w') := fun W => (isWidth_c W k).mono fun e w' ⟨h, h'⟩ => ⟨by rw [h]; simpa using hk, h'⟩
    have E : Hid (fits n k = false) := by show _ = _; simp only [Bool.not_eq_true] at hk; rw [fits, hk]; rfl
    clear hk
    go_enter Tryz.func98, Tryz.ntmps98
    go_wp2_with (go_at_call 114; refine (HW.out _).mono ?_; rintro e w' ⟨rfl, rfl⟩)
    go_ret
    rw [E.out]
    exact ⟨rfl, rfl⟩

end Go.Proofs.YtbpldkhgiddmlaaGreatDoor

/-
  take, Skip.
-/
set_option linter.unusedVariables false
namespace Go.Proofs.YtbpldkhgiddmlaaGreatDoor
open Go.RowKit

/-- What take gives: k of the cursor's own bytes, from o on. -/
def OwnC (g o k : Nat) (v : Value) : Prop := ∃ A c, v = .slice A k c ∧ k ≤ c ∧ c ≤ 9223372036854775807 ∧ (A = none → c = 0) ∧ (0 < k → A = some ⟨g, o, none⟩)
/-- What take does. -/
def Took (w : World) (p g : Nat) (T : TypeId) (c : Cur) (n : Int) (e : Ending) (w' : World) : Prop :=
  ∃ v, e = .returned v ∧ OwnC g c.at_ (c.got n).length v ∧ Holds w' p g T (c.take n) ∧ Only (· = p) w w'

theorem OwnC.nil_ (g o : Nat) : OwnC g o 0 (.slice none 0 0) := ⟨none, 0, rfl, Nat.le_refl _, by omega, fun _ => rfl, fun h => absurd h (by decide)⟩

set_option maxRecDepth 100000 in
set_option maxHeartbeats 1600000 in
theorem take_c (w : World) (p g : Nat) (T : TypeId) (c : Cur) (h : Holds w p g T c) (n : Int) :
    Calls Tryz.prog 97 #[.pointer (some ⟨p, 0, none⟩), .int .i64 n] w (Took w p g T c n) := by
  have HL := Lib.hid h
  by_cases hn : c.has n = true
  · have HH : Hid (∀ W : World, Holds W p g T c → Calls Tryz.prog 113 #[.pointer (some ⟨p, 0, none⟩), .int .i64 n] W fun e w' => e = .returned (.bool true) ∧ ∃ m, w' = W.drewN m) :=
      fun W hW => (curhas_c W p g T c hW n).mono fun e w' ⟨h, h'⟩ => ⟨by rw [h, hn], h'⟩
    have HE : Hid (c.take n = { c with at_ := c.at_ + n.toNat }) := by show _ = _; rw [Cur.take, if_pos hn]
    have HG : Hid ((c.got n).length = n.toNat) := Cur.got_length hn
    obtain ⟨hsp, k, rfl, hk⟩ := Cur.has_parts hn
    obtain ⟨A, cap, rest, h⟩ := h
    have H := Lib.hid h
    have h0 : w.cell? ⟨p, 0, none⟩ = some (.slice A c.b.length cap) := h.blk.cell 0
    have h1 : w.cell? ⟨p, 1, none⟩ = some (.int .i64 c.at_) := h.blk.cell 1
    have hfz : ∀ i, w.frozen? ⟨p, i, none⟩ = false := h.blk.frozen
    have hl := h.wf.len
    have hle := h.le
    have hsrc := h.src
    have hmx := h.max
    have HF : Hid (∀ (m q : Nat) (x : Int), x = (c.at_ : Int) + k → Holds (((w.drewN m).setCell ⟨p, 1, none⟩ (.int .i64 x)).drewN q) p g T { c with at_ := c.at_ + k } ∧ Only (· = p) w (((w.drewN m).setCell ⟨p, 1, none⟩ (.int .i64 x)).drewN q)) := by
      rintro m q x rfl
      refine ⟨Holds.drewN (c := { c with at_ := c.at_ + k }) ⟨A, cap, rest, CurIn.set (h.only (F := fun _ => False) ((Only.refl _ w).drewN m) id (fun _ => id)) 1 _ ⟨hk, hl⟩ rfl ?_⟩ q, (((Only.refl (· = p) _).drewN m).setCell rfl _).drewN q⟩
      simp [curOf]
    obtain ⟨a, hae⟩ : ∃ a, a = c.at_ := ⟨_, rfl⟩
    obtain ⟨N, hne⟩ : ∃ N, N = c.b.length := ⟨_, rfl⟩
    have HA := Lib.hid hae
    have HN := Lib.hid hne
    rw [← hne] at h0 hl hk hle
    rw [← hae] at h1 hk
    have b0 : (0 : Int) ≤ (a : Int) := by omega
    have b1 : (a : Int) ≤ (a : Int) + k := by omega
    have b2 : (a : Int) + k ≤ (N : Int) := by omega
    have b5 : (a : Int) + k ≤ (cap : Int) := by omega
    have b3 : (N : Int) ≤ 1099511627776 := by omega
    have b4 : (0 : Int) ≤ (k : Int) := by omega
    have bt : ((a : Int) + k).toNat = a + k := by omega
    rcases hsrc with ⟨rfl, hb, rfl⟩ | ⟨rfl, _, _⟩
    · obtain rfl : N = 0 := by rw [hne, hb]; rfl
      obtain rfl : a = 0 := by omega
      obtain rfl : k = 0 := by omega
      clear hb hne hae hsp hn hk H h bt
      go_enter Tryz.func97, Tryz.ntmps97
      go_wp2_with (go_at_call 113; refine (HH.out _ HL.out).mono ?_; rintro e w' ⟨rfl, m, rfl⟩)
      go_quiet (fail)
      go_wp2
      go_ret
      have hf := HF.out m nq 0 (by rw [← HA.out]; rfl)
      refine ⟨_, rfl, ?_, by rw [HE.out, Int.toNat_natCast]; exact hf.1, hf.2⟩
      rw [HG.out]
      exact OwnC.nil_ _ _
    · by_cases hcap : cap = a
      · obtain rfl : N = a := by omega
        obtain rfl : k = 0 := by omega
        subst hcap
        clear hne hae hsp hn hk H h bt
        go_enter Tryz.func97, Tryz.ntmps97
        go_wp2_with (go_at_call 113; refine (HH.out _ HL.out).mono ?_; rintro e w' ⟨rfl, m, rfl⟩)
        go_quiet (fail)
        go_wp2
        go_ret
        have hf := HF.out m nq cap (by rw [← HA.out]; rfl)
        refine ⟨_, rfl, ?_, by rw [HE.out, Int.toNat_natCast]; exact hf.1, hf.2⟩
        rw [HG.out]
        exact ⟨_, _, rfl, Nat.le_refl _, by omega, (fun e => by cases e), fun h => absurd h (by decide)⟩
      · clear hne hae hsp hn hk H h
        go_enter Tryz.func97, Tryz.ntmps97
        go_wp2_with (go_at_call 113; refine (HH.out _ HL.out).mono ?_; rintro e w' ⟨rfl, m, rfl⟩)
        go_quiet (fail)
        go_wp2
        go_ret
        have hf := HF.out m nq ((a : Int) + k) (by rw [← HA.out])
        refine ⟨_, rfl, ?_, by rw [HE.out, Int.toNat_natCast]; exact hf.1, hf.2⟩
        rw [HG.out, ← HA.out]
        exact ⟨_, _, rfl, by rw [Int.toNat_natCast]; omega, by omega, (fun e => by cases e), fun h => rfl⟩
  · have hn' : c.has n = false := by simpa using hn
    have HH : Hid (∀ W : World, Holds W p g T c → Calls Tryz.prog 113 #[.pointer (some ⟨p, 0, none⟩), .int .i64 n] W fun e w' => e = .returned (.bool false) ∧ ∃ m, w' = W.drewN m) :=
      fun W hW => (curhas_c W p g T c hW n).mono fun e w' ⟨h, h'⟩ => ⟨by rw [h, hn'], h'⟩
    have HE : Hid (c.take n = c.spoil) := by show _ = _; rw [Cur.take, hn']; rfl
    have HG : Hid (c.got n = []) := Cur.got_no hn'
    clear h hn hn'
    go_enter Tryz.func97, Tryz.ntmps97
    go_wp2_with (first | (go_at_call 113; refine (HH.out _ HL.out).mono ?_; rintro e w' ⟨rfl, m, rfl⟩) | (go_at_call 99; refine (spoil_c _ p g T c (HL.out.drewN _)).mono ?_; rintro e w' ⟨rfl, hh, ho⟩))
    go_ret
    refine ⟨_, rfl, ?_, ?_, ?_⟩
    · rw [HG.out]; exact OwnC.nil_ _ _
    · rw [HE.out]; exact hh
    · exact ((Only.refl _ w).drewN _).trans ho

theorem Skip_c (w : World) (p g : Nat) (T : TypeId) (c : Cur) (h : Holds w p g T c) (n : Int) :
    Calls Tryz.prog 86 #[.pointer (some ⟨p, 0, none⟩), .int .i64 n] w fun e w' => e = .returned (.tuple #[]) ∧ Holds w' p g T (c.take n) ∧ Only (· = p) w w' := by
  have HL := Lib.hid h
  clear h
  go_enter Tryz.func86, Tryz.ntmps86
  go_wp2_with (go_at_call 97; refine (take_c _ p g T c HL.out n).mono ?_; rintro e w' ⟨v, rfl, hv, hh, ho⟩)
  go_end0
  exact ⟨rfl, hh, ho⟩

end Go.Proofs.YtbpldkhgiddmlaaGreatDoor

/-
  NewWriter, NewReader, Done.
-/
set_option linter.unusedVariables false
namespace Go.Proofs.YtbpldkhgiddmlaaGreatDoor
open Go.RowKit

theorem made8 (k : Nat) : madeCells (z8).cells k = (List.replicate k z8).toArray := by
  unfold madeCells
  apply Array.ext
  · simp
  · intro i h1 h2
    simp [Value.cells, z8, Nat.mod_one]
theorem run_make8 (n : Nat) (hn : n ≤ 65536) (W : World) : (Instr.makeSlice 22 (.int .i64 (n : Int)) (.int .i64 (n : Int))).run Tryz.prog W = .ok (.slice (some ⟨W.heap.size, 0, none⟩) n n) (W.alloc (.cells (List.replicate n z8).toArray 5)) := by
  obtain ⟨i0, hi0, hz0, hz1, hz2⟩ := info_parts info8
  have hr := run_make (P := Tryz.prog) W 22 5 i0 _ Tryz.underlying22 hi0 hz0 .i64 .i64 (n : Int) (n : Int) (by omega) (by omega) (by rw [hz2]; omega) (by omega)
  simp only [Int.toNat_natCast] at hr
  rw [made8, hz1, Nat.mul_one] at hr
  exact hr

theorem made_holds (w : World) (T : TypeId) (n : Nat) (hn : n ≤ 65536) : Holds ((w.alloc (.cells (List.replicate n z8).toArray 5)).alloc (.cells #[.slice (some ⟨w.heap.size, 0, none⟩) n n, .int .i64 0, .bool false] T)) (w.heap.size + 1) w.heap.size T (Cur.new (List.replicate n 0)) := by
  have h1 := Blk.new w 5 (List.replicate n z8)
  have h2 := Blk.new (w.alloc (.cells (List.replicate n z8).toArray 5)) T [.slice (some ⟨w.heap.size, 0, none⟩) n n, .int .i64 0, .bool false]
  have hs : (w.alloc (.cells (List.replicate n z8).toArray 5)).heap.size = w.heap.size + 1 := by simp
  rw [hs] at h2
  refine ⟨some ⟨w.heap.size, 0, none⟩, n, [], ⟨Nat.zero_le _, by simp [Cur.new]; omega⟩, ?_, .inr ⟨rfl, by omega, ?_⟩, by simp [Cur.new], by omega⟩
  · simpa [curOf, Cur.new] using h2
  · have := h1.alloc (.cells #[.slice (some ⟨w.heap.size, 0, none⟩) n n, .int .i64 0, .bool false] T)
    simpa [Cur.new, cb_replicate, z8] using this

/-- What a New gives: a cursor of its own. -/
def Made (w : World) (T : TypeId) (c : Cur) (e : Ending) (w' : World) : Prop := ∃ p g, e = .returned (.pointer (some ⟨p, 0, none⟩)) ∧ w.heap.size ≤ p ∧ w.heap.size ≤ g ∧ Holds w' p g T c ∧ Only (w.heap.size ≤ ·) w w' ∧ g < w'.heap.size

set_option maxRecDepth 100000 in
theorem NewWriter_c (w : World) (n : Int) :
    Calls Tryz.prog 81 #[.int .i64 n] w (Made w 146 (Cur.make n)) := by
  by_cases h : 0 ≤ n ∧ n ≤ 65536
  · obtain ⟨h0, h1⟩ := h
    obtain ⟨m, rfl⟩ : ∃ m : Nat, n = m := ⟨n.toNat, by omega⟩
    have hm : m ≤ 65536 := by omega
    have E : Hid (Cur.make (m : Int) = Cur.new (List.replicate m 0)) := by show _ = _; rw [Cur.make, size, if_pos ⟨h0, h1⟩, Int.toNat_natCast]
    have hmk := run_make8 m hm
    have HM := Lib.hid (made_holds w 146 m hm)
    go_enter Tryz.func81, Tryz.ntmps81
    go_wp2
    go_ret
    refine ⟨w.heap.size + 1, w.heap.size, by simp, by omega, Nat.le_refl _, by rw [E.out]; exact HM.out, ((Only.refl _ w).alloc (fun _ h => h) _).alloc (fun _ h => h) _, by simp; omega⟩
  · have E : Hid (Cur.make n = Cur.new (List.replicate 0 0)) := by show _ = _; rw [Cur.make, size, if_neg h]
    have hmk : ∀ W : World, (Instr.makeSlice 22 (.int .i64 0) (.int .i64 0)).run Tryz.prog W = .ok (.slice (some ⟨W.heap.size, 0, none⟩) 0 0) (W.alloc (.cells #[] 5)) := fun W => by simpa using run_make8 0 (by omega) W
    have HM := Lib.hid (made_holds w 146 0 (by omega))
    by_cases h0 : 0 ≤ n
    · have h1 : ¬ n ≤ 65536 := fun h1 => h ⟨h0, h1⟩
      clear h
      go_enter Tryz.func81, Tryz.ntmps81
      go_wp2
      go_ret
      refine ⟨w.heap.size + 1, w.heap.size, by simp, by omega, Nat.le_refl _, by rw [E.out]; exact HM.out, ((Only.refl _ w).alloc (fun _ h => h) _).alloc (fun _ h => h) _, by simp; omega⟩
    · clear h
      go_enter Tryz.func81, Tryz.ntmps81
      go_wp2
      go_ret
      refine ⟨w.heap.size + 1, w.heap.size, by simp, by omega, Nat.le_refl _, by rw [E.out]; exact HM.out, ((Only.refl _ w).alloc (fun _ h => h) _).alloc (fun _ h => h) _, by simp; omega⟩

theorem own_holds {w w1 : World} {v : Value} {xs : Bytes} (T : TypeId) (h : w1.ownsRow w.heap.size 5 1 v xs.length (cb xs)) (hn : xs.length ≤ 1099511627776) (ho : Only (w.heap.size ≤ ·) w w1) :
    ∃ g, w.heap.size ≤ g ∧ g < w1.heap.size + 1 ∧ Holds (w1.alloc (.cells #[v, .int .i64 0, .bool false] T)) w1.heap.size g T (Cur.new xs) := by
  have h2 := Blk.new w1 T [v, .int .i64 0, .bool false]
  rcases h.2 with ⟨rfl, h0⟩ | ⟨g, cap, cur, rfl, hb, hg, hc, hm, hcs, htake⟩
  · obtain rfl : xs = [] := List.eq_nil_of_length_eq_zero h0
    exact ⟨w1.heap.size, ho.size, Nat.lt_succ_self _, none, 0, [], ⟨Nat.zero_le _, by simp [Cur.new]⟩, h2, .inl ⟨rfl, rfl, rfl⟩, Nat.le_refl _, by omega⟩
  · have hlt : g < w1.heap.size := (Array.getElem?_eq_some_iff.1 hg).1
    have hcur : cb xs ++ cur.toList.drop (xs.length * 1) = cur.toList := by rw [← htake]; exact List.take_append_drop _ _
    refine ⟨g, hb, Nat.lt_succ_of_lt hlt, some ⟨g, 0, none⟩, cap, cur.toList.drop (xs.length * 1), ⟨Nat.zero_le _, by simpa [Cur.new] using hn⟩, h2, .inr ⟨rfl, by omega, ?_⟩, hc, by simp only [maxLen] at hm; omega⟩
    show Blk _ g 5 (cb xs ++ cur.toList.drop (xs.length * 1))
    rw [hcur]
    refine Blk.alloc ?_ _
    unfold Blk
    rw [Array.toArray_toList]
    exact hg

set_option maxRecDepth 100000 in
theorem NewReader_c (w : World) (v : Value) (xs : Bytes) (h : Src w v xs) (hn : xs.length ≤ 1099511627776) :
    Calls Tryz.prog 109 #[v] w (Made w 165 (Cur.new xs)) := by
  have H := Lib.hid h
  clear h
  go_enter Tryz.func109, Tryz.ntmps109
  go_wp2_with (go_at_call 102; refine (SClone_c _ v xs H.out hn).mono ?_; rintro e w' ⟨v', rfl, hown, ho⟩; obtain ⟨A', c', rfl, _⟩ := Src.own hown)
  go_ret
  obtain ⟨g, hg, hg2, hh⟩ := own_holds 165 hown hn ho
  exact ⟨_, g, rfl, ho.size, hg, hh, ho.alloc (fun _ h => h) _, by simpa using hg2⟩

/-- What Done tells. -/
def Cur.out (c : Cur) : Bytes := if c.sp = true then [] else c.b
theorem Holds.src {w : World} {p g : Nat} {T : TypeId} {c : Cur} (h : Holds w p g T c) : ∃ v, w.cell? ⟨p, 0, none⟩ = some v ∧ Src w v c.b := by
  obtain ⟨A, cap, rest, h⟩ := h
  refine ⟨_, h.blk.cell 0, A, cap, rfl, ?_, ?_, h.le, h.max⟩
  · rcases h.src with ⟨rfl, hb, _⟩ | ⟨rfl, _, hb⟩
    · rw [hb]; exact Txt.nil_ _ _
    · have := Txt.blk hb 0 c.b.length (by omega) (A := some ⟨g, 0, none⟩) (fun _ => rfl)
      simpa using this
  · intro e
    rcases h.src with ⟨_, _, h1⟩ | ⟨h1, _⟩
    · exact h1
    · rw [e] at h1; cases h1

set_option maxRecDepth 100000 in
theorem Done_c (w : World) (p g : Nat) (c : Cur) (h : Holds w p g 146 c) :
    Calls Tryz.prog 88 #[.pointer (some ⟨p, 0, none⟩)] w fun e w' => ∃ v, e = .returned (.tuple #[v, .int .i64 c.err]) ∧ Src w' v c.out ∧ Only (w.heap.size ≤ ·) w w' := by
  have HL := Lib.hid h
  have hlen := h.wf.len
  obtain ⟨v, hv, hs⟩ := h.src
  have HS := Lib.hid hs
  clear h hs
  by_cases hsp : c.sp = true
  · have E : Hid (c.err = 30) := by show _ = _; rw [Cur.err, if_pos hsp]
    have E2 : Hid (c.out = []) := by show _ = _; rw [Cur.out, if_pos hsp]
    have HC : Hid (∀ W : World, Holds W p g 146 c → Calls Tryz.prog 101 #[.pointer (some ⟨p, 0, none⟩)] W fun e w' => e = .returned (.int .i64 30) ∧ W = w') := fun W hW => (err_c W p g _ c hW).mono fun e w' ⟨h, h'⟩ => ⟨by rw [h, E.out], h'⟩
    clear hsp
    go_enter Tryz.func88, Tryz.ntmps88
    go_wp2_with (go_at_call 101; refine (HC.out _ HL.out).mono ?_; rintro e w' ⟨rfl, rfl⟩)
    go_ret2
    rw [E.out, E2.out]
    exact ⟨_, rfl, Src.nil_ _, Only.refl _ _⟩
  · have E : Hid (c.err = 0) := by show _ = _; rw [Cur.err, if_neg hsp]
    have E2 : Hid (c.out = c.b) := by show _ = _; rw [Cur.out, if_neg hsp]
    have HC : Hid (∀ W : World, Holds W p g 146 c → Calls Tryz.prog 101 #[.pointer (some ⟨p, 0, none⟩)] W fun e w' => e = .returned (.int .i64 0) ∧ W = w') := fun W hW => (err_c W p g _ c hW).mono fun e w' ⟨h, h'⟩ => ⟨by rw [h, E.out], h'⟩
    clear hsp
    go_enter Tryz.func88, Tryz.ntmps88
    go_wp2_with (first | (go_at_call 101; refine (HC.out _ HL.out).mono ?_; rintro e w' ⟨rfl, rfl⟩) | (go_at_call 102; refine (SClone_c _ v c.b HS.out hlen).mono ?_; rintro e w' ⟨v', rfl, hown, ho⟩))
    go_ret2
    rw [E.out, E2.out]
    exact ⟨_, rfl, Src.own hown, ho⟩
end Go.Proofs.YtbpldkhgiddmlaaGreatDoor

/-
  A writer's Put; what its Bytes wants.
-/
set_option linter.unusedVariables false
namespace Go.Proofs.YtbpldkhgiddmlaaGreatDoor
open Go.RowKit

theorem over_snoc {α : Type} (cs : List α) (o : Nat) (vs : List α) (v : α) (h : o + vs.length < cs.length) : over cs o (vs ++ [v]) = (over cs o vs).set (o + vs.length) v := by
  apply List.ext_getElem?
  intro i
  rw [over_get _ _ _ (by simp; omega), List.getElem?_set, over_get _ _ _ (by omega), over_length _ _ _ (by omega)]
  simp only [List.length_append, List.length_singleton, List.getElem?_append]
  by_cases h1 : o + vs.length = i
  · subst h1
    rw [if_pos (by omega), if_neg (by omega), if_pos rfl, if_pos (by omega), show o + vs.length - o - vs.length = 0 by omega]
    rfl
  · rw [if_neg h1]
    by_cases h2 : o ≤ i ∧ i < o + vs.length
    · rw [if_pos (by omega), if_pos h2, if_pos (by omega)]
    · rw [if_neg (by omega), if_neg h2]
theorem rest_eq {w : World} {g : Nat} {t : TypeId} {xs a b : List Value} (h : Blk w g t (xs ++ a)) (h' : Blk w g t (xs ++ b)) : a = b := by
  unfold Blk at h h'
  rw [h] at h'
  injection h' with h1
  injection h1 with h1
  have := congrArg Array.toList h1
  simpa using this
theorem byte_val (a j : Nat) : (a : Int) / 2 ^ (8 * j) % 256 = ((UInt8.ofNat (a / 256 ^ j % 256)).toNat : Int) := by
  have h : (2 : Int) ^ (8 * j) = ((256 ^ j : Nat) : Int) := by
    rw [Int.natCast_pow, Int.pow_mul]
    rfl
  rw [h, UInt8.toNat_ofNat']
  omega
theorem over_rest {α : Type} (cs ds : List α) (o : Nat) (vs : List α) (h : o + vs.length ≤ cs.length) : over (cs ++ ds) o vs = over cs o vs ++ ds := over_append cs ds o vs h

/-- The cursor behind a write of all of xs. -/
theorem write_eq {c : Cur} {xs : Bytes} (h : c.has xs.length = true) : c.write xs = { c with b := over c.b c.at_ xs, at_ := c.at_ + xs.length } := by rw [Cur.write, if_pos h]
theorem write_no {c : Cur} {xs : Bytes} (h : c.has xs.length = false) : c.write xs = c.spoil := by rw [Cur.write, h]; rfl

/-- Some bytes laid over those of a cursor. -/
theorem Holds.laid {w w' : World} {p g : Nat} {T : TypeId} {c : Cur} (h : Holds w p g T c) {ys : Bytes} (hl : ys.length = c.b.length) (hp : w'.heap[p]? = w.heap[p]?) (hg : ∀ rest, Blk w g 5 (cb c.b ++ rest) → g ≠ p → Blk w' g 5 (cb ys ++ rest)) : Holds w' p g T { c with b := ys } := by
  obtain ⟨A, cap, rest, h⟩ := h
  refine ⟨A, cap, rest, ⟨by show _ ≤ _; rw [hl]; exact h.wf.at_, by show _ ≤ _; rw [hl]; exact h.wf.len⟩, ?_, ?_, by show _ ≤ _; rw [hl]; exact h.le, h.max⟩
  · show Blk w' p T [.slice A ys.length cap, .int .i64 c.at_, .bool c.sp]
    rw [hl]
    exact hp.trans h.blk
  · rcases h.src with ⟨h1, h2, h3⟩ | ⟨h1, h2, h3⟩
    · refine .inl ⟨h1, ?_, h3⟩
      rw [h2] at hl
      exact List.eq_nil_of_length_eq_zero hl
    · exact .inr ⟨h1, h2, hg rest h3 h2⟩

theorem after_take {w : World} {p g : Nat} {T : TypeId} {c : Cur} {n : Int} (h : Holds w p g T (c.take n)) (hb : 0 < c.b.length) : g ≠ p ∧ ∃ rest, Blk w g 5 (cb c.b ++ rest) := by
  have := h.pos (by rw [Cur.take_b]; exact hb)
  rwa [Cur.take_b] at this
theorem after_src {w w' : World} {p g n : Nat} {ad : Addr} {xs : Bytes} (h : Txt w (some ad) n xs) (ho : Only (· = p) w w') (hf : ¬ Foot p g ad.block) : ∀ j u, (cb xs)[j]? = some u → w'.cell? (ad.add j) = some u :=
  (h.only ho (fun ad' _ e => by injection e with e; subst e; exact fun h => hf (.inl h))).src ad rfl

set_option maxRecDepth 100000 in
set_option maxHeartbeats 1600000 in
theorem Put_c (w : World) (p g : Nat) (c : Cur) (h : Holds w p g 146 c) (n k : Int) (h1 : -9223372036854775808 ≤ n) (h2 : n ≤ 9223372036854775807) :
    Calls Tryz.prog 84 #[.pointer (some ⟨p, 0, none⟩), .int .i64 n, .int .i64 k] w fun e w' => e = .returned (.tuple #[]) ∧ Holds w' p g 146 (c.put n k) ∧ Only (Foot p g) w w' := by
  have HL := Lib.hid h
  clear h
  by_cases hfit : fits n k = true
  · have HC : Hid (∀ W : World, Calls Tryz.prog 98 #[.int .i64 n, .int .i64 k] W fun e w' => e = .returned (.bool true) ∧ W = w') := fun W => (Fits_c W n k h1 h2).mono fun e w' ⟨h, h'⟩ => ⟨by rw [h, hfit], h'⟩
    have HP : Hid (c.put n k = c.write (le n.toNat k.toNat)) := by show _ = _; rw [Cur.put, if_pos hfit]
    obtain ⟨a, m, rfl, rfl, m1, m8, ha⟩ := fits_parts hfit
    rw [Int.toNat_natCast, Int.toNat_natCast] at HP
    clear hfit
    by_cases hn : c.has m = true
    · obtain ⟨hsp, m', hnn, hk⟩ := Cur.has_parts hn
      obtain rfl : m = m' := by omega
      have HG : Hid ((c.got m).length = m) := by show _ = _; rw [Cur.got_length hn, Int.toNat_natCast]
      have HT : Hid (c.take m = { c with at_ := c.at_ + m }) := by show _ = _; rw [Cur.take, if_pos hn, Int.toNat_natCast]
      have HW : Hid (c.write (le a m) = { c with b := over c.b c.at_ (le a m), at_ := c.at_ + m }) := by
        show _ = _
        rw [write_eq (by rw [le_length]; exact hn), le_length]
      have Hk := Lib.hid hk
      have H0 : Hid (0 < m) := m1
      clear hn hsp hnn hk
      go_enter Tryz.func84, Tryz.ntmps84
      go_wp2_with (first | (go_at_call 98; refine (HC.out _).mono ?_; rintro e w' ⟨rfl, rfl⟩) | (go_at_call 97; refine (take_c _ p g _ c HL.out _).mono ?_; rintro e w1 ⟨v, rfl, ⟨A', c', hv, hkc, hcm, hAn, hAs⟩, hh, ho⟩; rw [HG.out] at hv hAs; have hA'' := hAs H0.out; subst hA''; subst hv; have HH := Lib.hid hh; have HO := Lib.hid ho; clear hh ho hkc hcm hAn hAs))
      obtain ⟨hgp, rest, hblk⟩ := HH.out.pos (by have := Hk.out; have := H0.out; rw [Cur.take_b]; omega)
      rw [Cur.take_b] at hblk
      have HB := Lib.hid hblk
      have Hgp : Hid (g ≠ p) := hgp
      clear hblk hgp
      go_loopw [23] (fun i wr => ∃ j : Nat, j ≤ m ∧ i = .int .i64 j ∧ Hid (Blk wr g 5 (cb (over c.b c.at_ (le a j)) ++ rest) ∧ Only (· = g) w1 wr)) (fun i _ => m - (intOf i).toNat)
      case atStart => exact ⟨0, Nat.zero_le _, rfl, by rw [show le a 0 = [] from rfl, over_nil]; exact HB.out, Only.refl _ _⟩
      case round =>
        obtain ⟨j, hj, rfl, hr⟩ := hrel
        by_cases hlt : j < m
        · have i1 : (j : Int) < (m : Int) := by omega
          have i2 : (j : Int) ≤ 7 := by omega
          have hin : c.at_ + j < (over c.b c.at_ (le a j)).length := by
            have := Hk.out
            rw [over_length _ _ _ (by rw [le_length]; omega)]
            omega
          obtain ⟨u, hu⟩ : ∃ u, wr.cell? ⟨g, c.at_ + j, none⟩ = some u := by
            refine ⟨_, (hr.out.1.cell _).trans (List.getElem?_eq_getElem ?_)⟩
            simp [cb_length]
            omega
          have hfz : wr.frozen? ⟨g, c.at_ + j, none⟩ = false := hr.out.1.frozen _
          have HS : Hid (Blk (wr.setCell ⟨g, c.at_ + j, none⟩ (.int .u8 ((a : Int) / 2 ^ (8 * j) % 256))) g 5 (cb (over c.b c.at_ (le a (j + 1))) ++ rest)) := by
            show Blk _ _ _ _
            rw [le_snoc, over_snoc _ _ _ _ (by have := Hk.out; rw [le_length]; omega), le_length]
            have h := hr.out.1.set_ (c.at_ + j) (.int .u8 ((a : Int) / 2 ^ (8 * j) % 256))
            rw [List.set_append_left _ _ (by rw [cb_length]; exact hin), byte_val] at h
            rw [byte_val]
            simpa [cb, List.map_set] using h
          clear hin
          go_wp2
          refine ⟨⟨j + 1, by omega, by go_num, HS.out, hr.out.2.setCell rfl _⟩, ?_⟩
          simp [intOf]
          omega
        · obtain rfl : j = m := by omega
          have i1 : ¬ (j : Int) < (j : Int) := by omega
          go_wp2
          go_end0
          refine ⟨rfl, ?_, (HO.out.mono fun k h => .inl h).trans (hr.out.2.mono fun k h => .inr h)⟩
          have hh := HH.out
          rw [HT.out] at hh
          rw [HP.out, HW.out]
          have hk := Hk.out
          refine hh.laid (c := { c with at_ := c.at_ + j }) (ys := over c.b c.at_ (le a j)) (over_length _ _ _ (by rw [le_length]; omega)) (hr.out.2.block p fun e => Hgp.out e.symm) fun rest' hb _ => ?_
          obtain rfl := rest_eq hb HB.out
          exact hr.out.1
    · have hn' : c.has m = false := by simpa using hn
      have HG : Hid ((c.got m).length = 0) := by show _ = _; rw [Cur.got_no hn']; rfl
      have HT : Hid (c.take m = c.spoil) := by show _ = _; rw [Cur.take, hn']; rfl
      have HW : Hid (c.put a m = c.spoil) := by show _ = _; rw [HP.out]; exact write_no (by rw [le_length]; exact hn')
      clear hn hn'
      go_enter Tryz.func84, Tryz.ntmps84
      go_wp2_with (first | (go_at_call 98; refine (HC.out _).mono ?_; rintro e w' ⟨rfl, rfl⟩) | (go_at_call 97; refine (take_c _ p g _ c HL.out _).mono ?_; rintro e w1 ⟨v, rfl, ⟨A', c', hv, hkc, hcm, hAn, hAs⟩, hh, ho⟩; rw [HG.out] at hv; subst hv; have HH := Lib.hid hh; have HO := Lib.hid ho; clear hh ho hkc hcm hAn hAs))
      go_loopw [23] (fun i wr => i = .int .i64 0 ∧ wr = w1) (fun i _ => 0)
      case atStart => exact ⟨rfl, rfl⟩
      case round =>
        obtain ⟨rfl, rfl⟩ := hrel
        go_wp2
        go_end0
        refine ⟨rfl, ?_, HO.out.mono fun k h => .inl h⟩
        rw [HW.out, ← HT.out]
        exact HH.out
  · have HC : Hid (∀ W : World, Calls Tryz.prog 98 #[.int .i64 n, .int .i64 k] W fun e w' => e = .returned (.bool false) ∧ W = w') := fun W => (Fits_c W n k h1 h2).mono fun e w' ⟨h, h'⟩ => ⟨by rw [h]; simpa using hfit, h'⟩
    have HP : Hid (c.put n k = c.spoil) := by show _ = _; rw [Cur.put, if_neg hfit]
    clear hfit
    go_enter Tryz.func84, Tryz.ntmps84
    go_wp2_with (first | (go_at_call 98; refine (HC.out _).mono ?_; rintro e w' ⟨rfl, rfl⟩) | (go_at_call 99; refine (spoil_c _ p g _ c HL.out).mono ?_; rintro e w1 ⟨rfl, hh, ho⟩; have HH := Lib.hid hh; have HO := Lib.hid ho; clear hh ho))
    refine bodyPost_ret (results_none rfl _ _ _) rfl ?_
    refine ⟨rfl, ?_, HO.out.mono fun k h => .inl h⟩
    rw [HP.out]
    exact HH.out
end Go.Proofs.YtbpldkhgiddmlaaGreatDoor

/-
  A writer's Bytes.
-/
set_option linter.unusedVariables false
namespace Go.Proofs.YtbpldkhgiddmlaaGreatDoor
open Go.RowKit

set_option maxRecDepth 100000 in
set_option maxHeartbeats 1600000 in
theorem WBytes_c (w : World) (p g : Nat) (c : Cur) (h : Holds w p g 146 c) (v : Value) (xs : Bytes) (hx : Src w v xs) (hf : ∀ ad n c', v = .slice (some ad) n c' → 0 < n → ¬ Foot p g ad.block) :
    Calls Tryz.prog 82 #[.pointer (some ⟨p, 0, none⟩), v] w fun e w' => e = .returned (.tuple #[]) ∧ Holds w' p g 146 (c.write xs) ∧ Only (Foot p g) w w' := by
  have HL := Lib.hid h
  obtain ⟨A, cx, rfl, ht, hA, hcx, hmx⟩ := hx
  obtain ⟨n, hne⟩ : ∃ n, n = xs.length := ⟨_, rfl⟩
  rw [← hne] at hf ht hcx ⊢
  by_cases hn : c.has n = true
  · obtain ⟨hsp, n', hnn, hk⟩ := Cur.has_parts hn
    obtain rfl : n = n' := by omega
    have HG : Hid ((c.got n).length = n) := by show _ = _; rw [Cur.got_length hn, Int.toNat_natCast]
    have HT : Hid (c.take n = { c with at_ := c.at_ + n }) := by show _ = _; rw [Cur.take, if_pos hn, Int.toNat_natCast]
    have HW : Hid (c.write xs = { c with b := over c.b c.at_ xs, at_ := c.at_ + n }) := by show _ = _; rw [hne] at hn ⊢; exact write_eq hn
    have HX : Hid (xs.length = n) := hne.symm
    rcases Nat.eq_zero_or_pos n with h0 | h0
    · subst h0
      have HZ : Hid (xs = []) := List.eq_nil_of_length_eq_zero hne.symm
      have HG0 : Hid ((c.got 0).length = 0) := HG
      have HT0 : Hid (c.take 0 = { c with at_ := c.at_ + 0 }) := HT
      clear hn hsp hnn hk hf ht hne HG HT
      go_enter Tryz.func82, Tryz.ntmps82
      go_wp2_with (first | (go_at_call 97; refine (take_c _ p g _ c HL.out _).mono ?_; rintro e w' ⟨v, rfl, ⟨A', c', hv, hkc, hcm, hAn, hAs⟩, hh, ho⟩; rw [HG0.out] at hv; subst hv; have HH := Lib.hid hh; have HO := Lib.hid ho; clear hh ho hkc hcm hAn hAs) | (with_reducible refine wpList_copy_nothing rfl (.tmp 9) (.tmp 10) 22 22 rfl 5 Tryz.underlying22 size8 A' A 0 c' 0 cx (by simp [Act.eval]) (by simp [Act.eval]) rfl ?_))
      go_end0
      refine ⟨rfl, ?_, HO.out.mono fun k h => .inl h⟩
      rw [HW.out, HZ.out, over_nil]
      have := HH.out
      rw [HT0.out] at this
      exact this
    · obtain ⟨ad, rfl, hc⟩ := ht.2 h0
      have hbpos : 0 < c.b.length := by omega
      have HT2 := Lib.hid ht
      have HF : Hid (¬ Foot p g ad.block) := hf ad n cx rfl h0
      have Hk := Lib.hid hk
      have Hlen : Hid ((cb xs).length = Nat.min n n) := by show _ = _; rw [cb_length, ← hne]; exact (Nat.min_self n).symm
      have H0 := Lib.hid h0
      have HP : Hid (0 < c.b.length) := hbpos
      clear hn hsp hnn hk hf ht hne hc hbpos
      go_enter Tryz.func82, Tryz.ntmps82
      have HZ : Hid (∀ rest : List Value, c.at_ + (cb xs).length ≤ (cb c.b ++ rest).toArray.size) := by
        intro rest
        have h1 := Hk.out
        have h2 := HX.out
        rw [cb_length]
        simp [cb_length]
        omega
      go_wp2_with (first | (go_at_call 97; refine (take_c _ p g _ c HL.out _).mono ?_; rintro e w' ⟨v, rfl, ⟨A', c', hv, hkc, hcm, hAn, hAs⟩, hh, ho⟩; rw [HG.out] at hv hAs; have hA'' := hAs H0.out; subst hA''; subst hv; obtain ⟨hgp, rest, hblk⟩ := after_take hh HP.out; have HB := Lib.hid hblk; unfold Blk at hblk; have HB2 := Lib.hid hblk; have Hgp := Lib.hid hgp; have Hsrc := Lib.hid (after_src HT2.out ho HF.out); have HH := Lib.hid hh; have HO := Lib.hid ho; clear hh ho hkc hcm hAn hAs hblk hgp) | (with_reducible refine wpList_copy_own rfl (.tmp 9) (.tmp 10) 22 22 rfl 5 Tryz.underlying22 size8 g c.at_ n c' ad n cx (by simp [Act.eval]) (by simp [Act.eval]) (cb c.b ++ rest).toArray 5 HB2.out (cb xs) Hlen.out Hsrc.out (HZ.out rest) (cb_one _) ?_))
      go_end0
      refine ⟨rfl, ?_, (HO.out.mono fun k h => .inl h).setRow (.inr rfl) _⟩
      have hh := HH.out
      rw [HT.out] at hh
      rw [HW.out]
      have hk := Hk.out
      have hx := HX.out
      refine hh.laid (c := { c with at_ := c.at_ + n }) (ys := over c.b c.at_ xs) (over_length _ _ _ (by omega)) (setRow_other _ _ _ _ (fun e => Hgp.out e.symm)) fun rest' hb _ => ?_
      obtain rfl := rest_eq hb HB.out
      show Blk (w'.setRow g (over (cb c.b ++ rest') c.at_ (cb xs)).toArray) g 5 (cb (over c.b c.at_ xs) ++ rest')
      rw [over_rest _ _ _ _ (by rw [cb_length, cb_length]; omega), ← cb_over]
      exact setRow_heap w' g _ _ 5 _ HB.out
  · have hn' : c.has n = false := by simpa using hn
    have HG : Hid ((c.got n).length = 0) := by show _ = _; rw [Cur.got_no hn']; rfl
    have HT : Hid (c.take n = c.spoil) := by show _ = _; rw [Cur.take, hn']; rfl
    have HW : Hid (c.write xs = c.spoil) := by show _ = _; rw [hne] at hn'; exact write_no hn'
    clear hn hn' hf ht hne
    go_enter Tryz.func82, Tryz.ntmps82
    go_wp2_with (first | (go_at_call 97; refine (take_c _ p g _ c HL.out _).mono ?_; rintro e w' ⟨v, rfl, ⟨A', c', hv, hkc, hcm, hAn, hAs⟩, hh, ho⟩; rw [HG.out] at hv; subst hv; have HH := Lib.hid hh; have HO := Lib.hid ho; clear hh ho hkc hcm hAn hAs) | (with_reducible refine wpList_copy_nothing rfl (.tmp 9) (.tmp 10) 22 22 rfl 5 Tryz.underlying22 size8 A' A 0 c' n cx (by simp [Act.eval]) (by simp [Act.eval]) (Nat.min_zero _) ?_))
    go_end0
    refine ⟨rfl, ?_, HO.out.mono fun k h => .inl h⟩
    rw [HW.out, ← HT.out]
    exact HH.out

end Go.Proofs.YtbpldkhgiddmlaaGreatDoor

/-
  A reader: number, Get, Bytes, Err, Left.
-/
set_option linter.unusedVariables false
namespace Go.Proofs.YtbpldkhgiddmlaaGreatDoor
open Go.RowKit

/-- A word without a sign, read as one with a sign. -/
def w64 (n : Nat) : Int := if n < 9223372036854775808 then (n : Int) else (n : Int) - 18446744073709551616
theorem num_take (xs : Bytes) (j : Nat) (x : UInt8) (h : xs[j]? = some x) : num (xs.take (j + 1)) = num (xs.take j) + x.toNat * 256 ^ j := by
  have hj : j < xs.length := (List.getElem?_eq_some_iff.1 h).1
  rw [List.take_add_one, h]
  show num (xs.take j ++ [x]) = _
  rw [num_snoc, List.length_take, Nat.min_eq_left (by omega)]
theorem num_take_lt (xs : Bytes) (j : Nat) (hj : j ≤ 7) : num (xs.take j) < 72057594037927936 := by
  have h1 := num_lt (xs.take j)
  have h2 : 256 ^ (xs.take j).length ≤ 256 ^ 7 := Nat.pow_le_pow_right (by decide) (by simp; omega)
  have h3 : (256 : Nat) ^ 7 = 72057594037927936 := by decide
  omega

theorem ofInt64 (a : Nat) (ha : a < 9223372036854775808) : (BitVec.ofInt 64 (a : Int)).toNat = a := by
  rw [BitVec.ofInt_natCast, BitVec.toNat_ofNat]; exact Nat.mod_eq_of_lt (by omega)
theorem ofInt64_wrap (m : Nat) (hm : m < 18446744073709551616) : (BitVec.ofInt 64 (wrap64 (m : Int))).toNat = m := by
  have h2 : ((2 ^ 64 : Nat) : Int) = 18446744073709551616 := rfl
  rw [BitVec.toNat_ofInt, h2]
  unfold wrap64
  omega
theorem or_low (a y k : Nat) (ha : a < 2 ^ k) : a ||| y * 2 ^ k = a + y * 2 ^ k := by
  rw [Nat.or_comm, ← Nat.shiftLeft_eq, ← Nat.shiftLeft_add_eq_or_of_lt ha, Nat.add_comm]
theorem or64 (a m s : Nat) (b : Int) (ha : a < 9223372036854775808) (hb : (BitVec.ofInt 64 b).toNat = m) (h : a ||| m = s) (hs : s < 18446744073709551616) : bits .or .i64 (a : Int) b = w64 s := by
  show IntKind.i64.wrap ((BitVec.ofInt 64 (a : Int) ||| BitVec.ofInt 64 b).toNat : Int) = _
  rw [BitVec.toNat_or, ofInt64 a ha, hb, h, IntKind.wrap_i64]
  unfold w64
  split <;> omega
theorem or_val (a y j : Nat) (ha : a < 256 ^ j) (hy : y < 256) (hj : j ≤ 7) : bits .or .i64 (a : Int) (wrap64 ((y : Int) * 2 ^ (8 * j))) = w64 (a + y * 256 ^ j) := by
  have hp : (256 : Nat) ^ j = 2 ^ (8 * j) := by rw [Nat.pow_mul]
  have h7 : (256 : Nat) ^ j ≤ 72057594037927936 := by
    have h : (256 : Nat) ^ j ≤ 256 ^ 7 := Nat.pow_le_pow_right (by decide) hj
    have e : (256 : Nat) ^ 7 = 72057594037927936 := by decide
    omega
  have hz : (y : Int) * 2 ^ (8 * j) = ((y * 256 ^ j : Nat) : Int) := by rw [hp]; simp
  have hor : a ||| y * 256 ^ j = a + y * 256 ^ j := by
    rw [hp] at ha ⊢
    exact or_low a y _ ha
  have hm : y * 256 ^ j ≤ 255 * 72057594037927936 := Nat.mul_le_mul (by omega) h7
  rw [hz]
  generalize 256 ^ j = m at ha h7 hor hm ⊢
  generalize y * m = z at hor hm ⊢
  exact or64 a z _ _ (by omega) (ofInt64_wrap z (by omega)) hor (by omega)

set_option maxRecDepth 100000 in
set_option maxHeartbeats 1600000 in
theorem number_c (w : World) (A : Option Addr) (n c : Nat) (xs : Bytes) (ht : Txt w A n xs) (hn : n ≤ 8) :
    Calls Tryz.prog 117 #[.slice A n c] w fun e w' => e = .returned (.int .i64 (w64 (num xs))) ∧ w = w' := by
  have HT := Lib.hid ht
  clear ht
  go_enter Tryz.func117, Tryz.ntmps117
  go_wp2
  go_loop [8, 3] (fun i v => ∃ j : Nat, j ≤ n ∧ i = .int .i64 j ∧ v = .int .i64 (w64 (num (xs.take j)))) (fun i _ => n - (intOf i).toNat)
  case atStart => exact ⟨0, Nat.zero_le _, rfl, by simp [num, w64]⟩
  case round =>
    obtain ⟨j, hj, rfl, rfl⟩ := hrel
    by_cases hlt : j < n
    · have hlt' : (j : Int) < (n : Int) := by omega
      obtain ⟨ad, x, rfl, hx, hcell⟩ := HT.out.at_ hlt
      have i7 : (j : Int) ≤ 7 := by omega
      have HN := Lib.hid (num_take xs j x hx)
      have hl := num_take_lt xs j (by omega)
      have hl2 : num (xs.take j) < 256 ^ j := by
        have := num_lt (xs.take j)
        rwa [List.length_take, Nat.min_eq_left (by have := HT.out.1; omega)] at this
      have HW : Hid (w64 (num (xs.take j)) = (num (xs.take j) : Int)) := by show _ = _; rw [w64, if_pos (by omega)]
      have hx8 : (x.toNat : Int) < 256 := by have := UInt8.toNat_lt x; omega
      have HO : Hid (bits .or .i64 (num (xs.take j) : Int) (wrap64 ((x.toNat : Int) * 2 ^ (8 * j))) = w64 (num (xs.take (j + 1)))) := by
        show _ = _
        rw [HN.out]
        exact or_val _ _ _ hl2 (UInt8.toNat_lt x) (by omega)
      rw [HW.out]
      clear HW hl2
      generalize x.toNat = y at hcell HN hx8 HO
      generalize num (xs.take j) = a at HN hl HO ⊢
      clear hx
      go_wp2
      refine ⟨⟨j + 1, by omega, by go_num, by rw [HO.out]⟩, ?_⟩
      simp [intOf]
      omega
    · obtain rfl : j = n := by omega
      have hlt' : ¬ (j : Int) < (j : Int) := by omega
      have hlen := HT.out.1
      rw [List.take_of_length_le (by omega)]
      clear hlen
      go_wp2
      go_ret
      exact ⟨rfl, rfl⟩
end Go.Proofs.YtbpldkhgiddmlaaGreatDoor

/-
  A reader's Get, Err, Left.
-/
set_option linter.unusedVariables false
namespace Go.Proofs.YtbpldkhgiddmlaaGreatDoor
open Go.RowKit

abbrev Drawn (w w' : World) : Prop := Only (fun _ => False) w w'
theorem drawn_of {w w' : World} (h : ∃ m, w' = w.drewN m) : Drawn w w' := by
  obtain ⟨m, rfl⟩ := h
  exact (Only.refl _ w).drewN m
theorem Drawn.refl (w : World) : Drawn w w := Only.refl _ w
theorem Drawn.any {w w' : World} {F : Nat → Prop} (h : Drawn w w') : Only F w w' := h.mono fun _ h => h.elim
theorem Holds.drawn {w w' : World} {p g : Nat} {T : TypeId} {c : Cur} (h : Holds w p g T c) (hd : Drawn w w') : Holds w' p g T c := h.only hd fun _ _ _ h => h

/-- What Get does. -/
def Gets (w : World) (p g : Nat) (c : Cur) (k : Int) (e : Ending) (w' : World) : Prop := e = .returned (.int .i64 (c.val k)) ∧ Holds w' p g 165 (c.get k) ∧ Only (· = p) w w'

theorem may_no {c : Cur} {k : Int} (h : c.may k = false) : c.val k = 0 ∧ c.get k = c.spoil := ⟨by rw [Cur.val, h]; rfl, by rw [Cur.get, h]; rfl⟩
theorem may_yes {c : Cur} {k : Int} (h : c.may k = true) : c.val k = num (c.got k) ∧ c.get k = c.take k := ⟨by rw [Cur.val, if_pos h], by rw [Cur.get, if_pos h]⟩

set_option maxRecDepth 100000 in
set_option maxHeartbeats 1600000 in
theorem Get_c (w : World) (p g : Nat) (c : Cur) (h : Holds w p g 165 c) (k : Int) :
    Calls Tryz.prog 111 #[.pointer (some ⟨p, 0, none⟩), .int .i64 k] w (Gets w p g c k) := by
  have HL := Lib.hid h
  by_cases hw : wide k = true
  · have HI : Hid (∀ W : World, Calls Tryz.prog 114 #[.int .i64 k] W fun e w' => e = .returned (.bool true) ∧ W = w') := fun W => (isWidth_c W k).mono fun e w' ⟨h, h'⟩ => ⟨by rw [h, hw], h'⟩
    by_cases hn : c.has k = true
    · have HH : Hid (∀ W : World, Holds W p g 165 c → Calls Tryz.prog 113 #[.pointer (some ⟨p, 0, none⟩), .int .i64 k] W fun e w' => e = .returned (.bool true) ∧ Drawn W w') := fun W hW => (curhas_c W p g _ c hW k).mono fun e w' ⟨h, h'⟩ => ⟨by rw [h, hn], drawn_of h'⟩
      obtain ⟨hsp, m, rfl, hk⟩ := Cur.has_parts hn
      have m1 : 1 ≤ m ∧ m ≤ 8 := by simp only [wide, Bool.and_eq_true, decide_eq_true_eq] at hw; omega
      obtain ⟨xs, hxs⟩ : ∃ xs, xs = c.got m := ⟨_, rfl⟩
      have hgot : xs = (c.b.drop c.at_).take m := by rw [hxs, Cur.got, if_pos hn, Int.toNat_natCast]
      have hlx : xs.length = m := by rw [hxs, Cur.got_length hn, Int.toNat_natCast]
      have hmay : c.may m = decide (num xs < 9223372036854775808) := by rw [Cur.may, hw, hn, hxs]; rfl
      have hnum : num xs < 18446744073709551616 := by
        have h1 := num_lt xs
        rw [hlx] at h1
        have h2 := pow8 m m1.2
        omega
      obtain ⟨A, cap, rest, hin⟩ := h
      have HIN := Lib.hid hin
      have hle := hin.le
      have hlen := hin.wf.len
      obtain ⟨hgp, rest', hblk⟩ : A = some ⟨g, 0, none⟩ ∧ ∃ rest', Blk w g 5 (cb c.b ++ rest') := by
        rcases hin.src with ⟨_, h2, _⟩ | ⟨h1, _, h3⟩
        · rw [h2] at hk; simp at hk; omega
        · exact ⟨h1, rest, h3⟩
      subst hgp
      have HTX : Hid (∀ W, Drawn w W → Txt W (some ⟨g, c.at_, none⟩) m xs) := fun W hW => by
        rw [hgot]
        exact Txt.blk (hblk.only hW id) c.at_ m hk (fun _ => rfl)
      obtain ⟨a, hae⟩ : ∃ a, a = c.at_ := ⟨_, rfl⟩
      obtain ⟨N, hne⟩ : ∃ N, N = c.b.length := ⟨_, rfl⟩
      have HC : Hid (∀ W, Drawn w W → W.cell? ⟨p, 0, none⟩ = some (.slice (some ⟨g, 0, none⟩) N cap) ∧ W.cell? ⟨p, 1, none⟩ = some (.int .i64 a)) := fun W hW => by
        rw [hne, hae]
        have h := hin.only (F := fun _ => False) hW id (fun _ => id)
        exact ⟨h.blk.cell 0, h.blk.cell 1⟩
      rw [← hae] at HTX
      rw [← hne] at hle hlen hk
      rw [← hae] at hk
      have b0 : (0 : Int) ≤ (a : Int) := by omega
      have b1 : (a : Int) ≤ (a : Int) + m := by omega
      have b2 : (a : Int) + m ≤ (cap : Int) := by omega
      have b3 : ¬ (cap = a) := by omega
      have b4 : (a : Int) + m ≤ 2199023255552 := by omega
      have b5 : (0 : Int) ≤ (a : Int) + m := by omega
      have bt : ((a : Int) + m).toNat = a + m := by omega
      have bs : a + m - a = m := by omega
      have bw : IntKind.i64.wrap ((a : Int) + m) = (a : Int) + m := IntWalk.i64_in _ (by omega)
      by_cases hbig : num xs < 9223372036854775808
      · have HM : Hid (c.val m = num xs ∧ c.get m = c.take m) := by
          have := may_yes (c := c) (k := m) (by rw [hmay, decide_eq_true hbig])
          rw [← hxs] at this
          exact this
        have HNu : Hid (∀ W, Drawn w W → Calls Tryz.prog 117 #[.slice (some ⟨g, a, none⟩) m (cap - a)] W fun e w' => e = .returned (.int .i64 (num xs : Nat)) ∧ w' = W) := fun W hW =>
          (number_c W _ m (cap - a) xs (HTX.out W hW) m1.2).mono fun e w' ⟨h, h'⟩ => ⟨by rw [h, w64, if_pos hbig], h'.symm⟩
        generalize hX : num xs = X at HM HNu hbig
        have hX0 : ¬ ((X : Int) < 0) := by omega
        clear hin hxs hgot hlx hmay hnum hblk hae hne hk hw hn hsp HIN HTX hX hle hlen m1 hbig
        go_enter Tryz.func111, Tryz.ntmps111
        go_wp2_with (first | (go_at_call 114; refine (HI.out _).mono ?_; rintro e w' ⟨rfl, rfl⟩) | (go_at_call 113; refine (HH.out _ HL.out).mono ?_; rintro e w1 ⟨rfl, hd⟩; have HD := Lib.hid hd; have h0 := (HC.out w1 hd).1; have h1 := (HC.out w1 hd).2; clear hd))
        go_quiet ((go_at_call 117; exact Calls.quiet_of_same (HNu.out _ (HD.out.drewN _))))
        go_wp2_with (first | (go_at_call 86; refine (Skip_c _ p g _ c (HL.out.drawn (HD.out.drewN _)) _).mono ?_; rintro e w2 ⟨rfl, hh, ho⟩))
        go_ret
        rw [← HM.out.2] at hh
        exact ⟨by rw [HM.out.1]; rfl, hh, (Drawn.any (HD.out.drewN _)).trans ho⟩
      · have HM : Hid (c.val m = 0 ∧ c.get m = c.spoil) := may_no (by rw [hmay, decide_eq_false hbig])
        have HNu : Hid (∀ W, Drawn w W → Calls Tryz.prog 117 #[.slice (some ⟨g, a, none⟩) m (cap - a)] W fun e w' => e = .returned (.int .i64 ((num xs : Int) - 18446744073709551616)) ∧ w' = W) := fun W hW =>
          (number_c W _ m (cap - a) xs (HTX.out W hW) m1.2).mono fun e w' ⟨h, h'⟩ => ⟨by rw [h, w64, if_neg hbig], h'.symm⟩
        obtain ⟨X, hX⟩ : ∃ X : Int, X = (num xs : Int) - 18446744073709551616 := ⟨_, rfl⟩
        have hX0 : X < 0 := by omega
        rw [← hX] at HNu
        clear hin hxs hgot hlx hmay hnum hblk hae hne hk hw hn hsp HIN HTX hX hle hlen m1 hbig
        go_enter Tryz.func111, Tryz.ntmps111
        go_wp2_with (first | (go_at_call 114; refine (HI.out _).mono ?_; rintro e w' ⟨rfl, rfl⟩) | (go_at_call 113; refine (HH.out _ HL.out).mono ?_; rintro e w1 ⟨rfl, hd⟩; have HD := Lib.hid hd; have h0 := (HC.out w1 hd).1; have h1 := (HC.out w1 hd).2; clear hd))
        go_quiet ((go_at_call 117; exact Calls.quiet_of_same (HNu.out _ (HD.out.drewN _))))
        go_wp2_with (first | (go_at_call 99; refine (spoil_c _ p g _ c (HL.out.drawn (HD.out.drewN _))).mono ?_; rintro e w2 ⟨rfl, hh, ho⟩))
        go_ret
        rw [← HM.out.2] at hh
        exact ⟨by rw [HM.out.1]; rfl, hh, (Drawn.any (HD.out.drewN _)).trans ho⟩
    · have HH : Hid (∀ W : World, Holds W p g 165 c → Calls Tryz.prog 113 #[.pointer (some ⟨p, 0, none⟩), .int .i64 k] W fun e w' => e = .returned (.bool false) ∧ Drawn W w') := fun W hW => (curhas_c W p g _ c hW k).mono fun e w' ⟨h, h'⟩ => ⟨by rw [h]; simpa using hn, drawn_of h'⟩
      have HM : Hid (c.val k = 0 ∧ c.get k = c.spoil) := may_no (by simp only [Bool.not_eq_true] at hn; rw [Cur.may, hn]; simp)
      clear h hw hn
      go_enter Tryz.func111, Tryz.ntmps111
      go_wp2_with (first | (go_at_call 114; refine (HI.out _).mono ?_; rintro e w' ⟨rfl, rfl⟩) | (go_at_call 113; refine (HH.out _ HL.out).mono ?_; rintro e w1 ⟨rfl, hd⟩; have HD := Lib.hid hd; clear hd) | (go_at_call 99; refine (spoil_c _ p g _ c (HL.out.drawn HD.out)).mono ?_; rintro e w2 ⟨rfl, hh, ho⟩))
      go_ret
      rw [← HM.out.2] at hh
      exact ⟨by rw [HM.out.1]; rfl, hh, HD.out.any.trans ho⟩
  · have HI : Hid (∀ W : World, Calls Tryz.prog 114 #[.int .i64 k] W fun e w' => e = .returned (.bool false) ∧ W = w') := fun W => (isWidth_c W k).mono fun e w' ⟨h, h'⟩ => ⟨by rw [h]; simpa using hw, h'⟩
    have HM : Hid (c.val k = 0 ∧ c.get k = c.spoil) := may_no (by simp only [Bool.not_eq_true] at hw; rw [Cur.may, hw]; rfl)
    clear h hw
    go_enter Tryz.func111, Tryz.ntmps111
    go_wp2_with (first | (go_at_call 114; refine (HI.out _).mono ?_; rintro e w' ⟨rfl, rfl⟩) | (go_at_call 99; refine (spoil_c _ p g _ c HL.out).mono ?_; rintro e w2 ⟨rfl, hh, ho⟩))
    go_ret
    rw [← HM.out.2] at hh
    exact ⟨by rw [HM.out.1]; rfl, hh, ho⟩

end Go.Proofs.YtbpldkhgiddmlaaGreatDoor

/-
  A reader's Bytes.
-/
set_option linter.unusedVariables false
namespace Go.Proofs.YtbpldkhgiddmlaaGreatDoor
open Go.RowKit

theorem OwnC.src {w : World} {p g : Nat} {T : TypeId} {c : Cur} {n : Int} {v : Value} (h : OwnC g c.at_ (c.got n).length v) (hh : Holds w p g T (c.take n)) : Src w v (c.got n) := by
  obtain ⟨A, cp, rfl, h1, h2, h3, h4⟩ := h
  refine ⟨A, cp, rfl, ?_, h3, h1, h2⟩
  by_cases hn : c.has n = true
  · obtain ⟨_, k, rfl, hk⟩ := Cur.has_parts hn
    have hl : (c.got k).length = k := by rw [Cur.got_length hn, Int.toNat_natCast]
    rw [hl] at h4 ⊢
    rcases Nat.eq_zero_or_pos k with h0 | h0
    · subst h0
      have : c.got ((0 : Nat) : Int) = [] := List.eq_nil_of_length_eq_zero hl
      rw [this]
      exact Txt.nil_ _ _
    · obtain ⟨_, rest, hb⟩ := hh.pos (by rw [Cur.take_b]; omega)
      rw [Cur.take_b] at hb
      have := Txt.blk hb c.at_ k hk h4
      rwa [Cur.got, if_pos hn, Int.toNat_natCast]
  · rw [Cur.got_no (by simpa using hn)]
    exact Txt.nil_ _ _

/-- The same: the bytes are the call's own. -/
def Reads2 (w : World) (p g : Nat) (c : Cur) (n : Int) (e : Ending) (w' : World) : Prop := ∃ P pc, e = .returned (.slice P (c.got n).length pc) ∧ New w' w.heap.size (.slice P (c.got n).length pc) (c.got n) ∧ Holds w' p g 165 (c.take n) ∧ Only (fun k => k = p ∨ w.heap.size ≤ k) w w'
set_option maxRecDepth 100000 in
theorem RBytes_n (w : World) (p g : Nat) (c : Cur) (h : Holds w p g 165 c) (n : Int) :
    Calls Tryz.prog 112 #[.pointer (some ⟨p, 0, none⟩), .int .i64 n] w (Reads2 w p g c n) := by
  have HL := Lib.hid h
  have HN : Hid ((c.got n).length ≤ 1099511627776) := by
    have := h.wf.len
    show _ ≤ _
    unfold Cur.got
    split <;> simp <;> omega
  clear h
  go_enter Tryz.func112, Tryz.ntmps112
  go_wp2_with (first | (go_at_call 97; refine (take_c _ p g _ c HL.out n).mono ?_; rintro e w1 ⟨v, rfl, hv, hh, ho⟩; have HV := Lib.hid (hv.src hh); have HH := Lib.hid hh; have HO := Lib.hid ho; clear hv hh ho) | (go_at_call 102; refine (SClone_c _ _ _ HV.out HN.out).mono ?_; rintro e w2 ⟨v2, rfl, hown, ho2⟩))
  go_ret
  obtain ⟨P, pc, rfl, hnew⟩ := New.form hown
  exact ⟨P, pc, rfl, hnew.mono HO.out.size, HH.out.later ho2, (HO.out.mono fun k h => .inl h).trans (ho2.mono fun k h => .inr (Nat.le_trans HO.out.size h))⟩

end Go.Proofs.YtbpldkhgiddmlaaGreatDoor

