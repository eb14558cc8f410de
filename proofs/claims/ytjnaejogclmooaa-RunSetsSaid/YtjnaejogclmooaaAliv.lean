/-
  alive.
-/
import Derived.Test.YtjnaejogclmooaaOf
import Derived.Test.YtjnaejogclmooaaTake
set_option linter.unusedVariables false
namespace Go.Proofs.Ytjnaejogclmooaa
open Go.RowKit

def l0 : List R := [(2, 2), (6, 1)]
def l1 : List R := [(2, 5)]
def l2 : List R := [(4, 3)]
def l3 : List R := [(2, 1), (4, 3)]
def l4 : List R := [(4, 2)]
theorem r0 : right l0 = true := by decide +kernel
theorem r1 : right l1 = true := by decide +kernel
theorem r2 : right l2 = true := by decide +kernel
theorem r3 : right l3 = true := by decide +kernel
theorem r4 : right l4 = true := by decide +kernel
theorem i64_of {l : List R} (h : right l = true) : ∀ y ∈ l, I64 y := fun y hy => may_i64 (right_may h y hy)
theorem mem_of {l : List R} (h : right l = true) (p : Int) : Mem l p ↔ inn l p = true := by unfold Mem; rw [known_of h]

/-- A slice value of so many runs, of the call's own. -/
def LitRow (W w' : World) (v : Value) (l : List R) : Prop := ∃ g c, v = .slice (some ⟨g, 0, none⟩) l.length c ∧ Row w' v l
theorem lit_of {W w' : World} {B n : Nat} {v : Value} {u l : List R} (h : OwnN w' B v n u) (e : u = l) (h0 : 0 < l.length) : ∃ g c, v = .slice (some ⟨g, 0, none⟩) l.length c ∧ Row w' v l := by
  subst e
  have h1 := h.1
  obtain ⟨g, c, rfl⟩ := Joins.ownsRow_form h.2 (by omega)
  exact ⟨g, c, by rw [h1], h.row⟩

theorem add_lit (W : World) (v : Value) (h : Row W v l0) : Calls Try.prog 25 #[v, .agg #[.int .i64 4, .int .i64 2]] W fun e w' => ∃ g c, e = .returned (.tuple #[.slice (some ⟨g, 0, none⟩) 1 c, .bool true]) ∧ Row w' (.slice (some ⟨g, 0, none⟩) 1 c) l1 ∧ Only (W.heap.size ≤ ·) W w' :=
  (Add_c W v l0 (4, 2) h (i64_of r0) (by unfold I64; decide)).mono fun e w' ⟨v', n, u, b, h1, h2, h3, h4, h5⟩ => by
    obtain rfl : b = true := h3.2 ⟨by decide, fun p hp => by rw [mem_of r0] at hp; simp [l0, inn, within] at *; omega⟩
    obtain ⟨g, c, e', hr⟩ := lit_of (W := W) (l := l1) h2 (right_unique h4.1 r1 fun p => (h4.2 p).trans (by dsimp only; rw [mem_of r0]; simp [l0, l1, inn, within]; omega)) (by decide)
    subst e'
    exact ⟨g, c, h1, hr, h5⟩
theorem take_lit (W : World) (v : Value) (h : Row W v l1) : Calls Try.prog 29 #[v, .int .i64 2] W fun e w' => ∃ g c, e = .returned (.tuple #[.int .i64 2, .slice (some ⟨g, 0, none⟩) 1 c, .bool true]) ∧ Row w' (.slice (some ⟨g, 0, none⟩) 1 c) l2 ∧ Only (W.heap.size ≤ ·) W w' :=
  (Take_c W v l1 2 h (i64_of r1)).mono fun e w' ⟨at_, v', n, u, b, h1, h2, h3, h5⟩ => by
    rcases h3 with ⟨_, _, h, _⟩ | ⟨rfl, _, k, r, hk, _, _, rfl, hu⟩
    · rcases h with h | h
      · omega
      · rw [known_of r1] at h
        have := h (2, 5) (by simp [l1])
        simp at this
    · rw [known_of r1] at hk
      obtain ⟨rfl, rfl⟩ : k = 0 ∧ r = (2, 5) := by
        cases k with
        | zero => simp [l1] at hk; exact ⟨rfl, hk.symm⟩
        | succ k => simp [l1] at hk
      obtain ⟨g, c, e', hr⟩ := lit_of (W := W) (l := l2) h2 (right_unique hu.1 r2 fun p => (hu.2 p).trans (by dsimp only; rw [mem_of r1]; simp [l2, l1, inn, within]; omega)) (by decide)
      subst e'
      exact ⟨g, c, h1, hr, h5⟩
theorem drop_lit (W : World) (v : Value) (h : Row W v l1) : Calls Try.prog 26 #[v, .agg #[.int .i64 3, .int .i64 1]] W fun e w' => ∃ g c, e = .returned (.tuple #[.slice (some ⟨g, 0, none⟩) 2 c, .bool true]) ∧ Row w' (.slice (some ⟨g, 0, none⟩) 2 c) l3 ∧ Only (W.heap.size ≤ ·) W w' :=
  (Drop_c W v l1 (3, 1) h (i64_of r1) (by unfold I64; decide)).mono fun e w' ⟨v', n, u, b, h1, h2, h3, h4, h5⟩ => by
    obtain rfl : b = true := h3.2 ⟨by decide, (2, 5), by rw [known_of r1]; simp [l1], by decide⟩
    obtain ⟨g, c, e', hr⟩ := lit_of (W := W) (l := l3) h2 (right_unique h4.1 r3 fun p => (h4.2 p).trans (by dsimp only; rw [mem_of r1]; simp [l1, l3, inn, within]; omega)) (by decide)
    subst e'
    exact ⟨g, c, h1, hr, h5⟩
theorem pages_lit (W : World) (v : Value) (h : Row W v l3) : Calls Try.prog 13 #[v] W fun e w' => ∃ g c, e = .returned (.slice (some ⟨g, 0, none⟩) 4 c) ∧ w'.cell? ⟨g, 1, none⟩ = some (.int .i64 4) ∧ g < w'.heap.size ∧ Only (W.heap.size ≤ ·) W w' :=
  (Pages_c W v l3 h (i64_of r3)).mono fun e w' ⟨v', h1, h2, h3⟩ => by
    have e1 : pagesOf (known l3) = [2, 4, 5, 6] := by rw [known_of r3]; decide +kernel
    rw [e1] at h2
    obtain ⟨g, c, rfl⟩ := Joins.ownsRow_form h2 (by decide)
    refine ⟨g, c, h1, ?_, (World.ownsRow.lt h2 g rfl).2, h3⟩
    have := h2.cells (g := g) rfl 1 (.int .i64 4) rfl
    rwa [Addr.add_lit] at this
theorem count_lit (W : World) (v : Value) (h : Row W v l2) : Calls Try.prog 17 #[v] W (Told W (.int .i64 3)) := by
  have := Count_c W v l2 h (i64_of r2)
  rwa [known_of r2, show cnt l2 = 3 by decide] at this
theorem has6_lit (W : World) (v : Value) (h : Row W v l3) : Calls Try.prog 19 #[v, .int .i64 6] W (Told W (.bool true)) := by
  have := Has_c W v l3 6 h (i64_of r3) (by decide) (by decide)
  rwa [known_of r3, show inn l3 6 = true by decide] at this
theorem has3_lit (W : World) (v : Value) (h : Row W v l3) : Calls Try.prog 19 #[v, .int .i64 3] W (Told W (.bool false)) := by
  have := Has_c W v l3 3 h (i64_of r3) (by decide) (by decide)
  rwa [known_of r3, show inn l3 3 = false by decide] at this
theorem end_lit (W : World) (v : Value) (h : Row W v l1) : Calls Try.prog 18 #[v] W (Told W (.int .i64 7)) := by
  have := End_c W v l1 h (i64_of r1)
  rwa [known_of r1, show endOf l1 = 7 by decide] at this
theorem meet_lit (W : World) (v u : Value) (h : Row W v l1) (h' : Row W u l3) : Calls Try.prog 28 #[v, u] W (Told W (.bool true)) :=
  (Meet_c W v u l1 l3 h h' (i64_of r1) (i64_of r3)).mono fun e w' ⟨r, h1, h2, h3⟩ => by
    obtain rfl : r = true := h2.2 (by rw [known_of r1, known_of r3]; exact ⟨2, by decide, by decide⟩)
    exact ⟨h1, h3⟩
theorem right_lit (W : World) (g c : Nat) (h : Row W (.slice (some ⟨g, 0, none⟩) 2 c) l3) : Calls Try.prog 15 #[.slice (some ⟨g, 0, none⟩) 2 c] W (Told W (.bool true)) := by
  obtain ⟨A, c', e, h1, _, h3, h4⟩ := h
  simp only [Value.slice.injEq] at e
  obtain ⟨rfl, h2, rfl⟩ := e
  have := Right_c W (some ⟨g, 0, none⟩) 2 c l3 h1 rfl (i64_of r3) h3 h4
  rwa [r3] at this
theorem union_lit (W : World) (v u : Value) (h : Row W v l3) (h' : Row W u l2) : Calls Try.prog 27 #[v, u] W fun e w' => ∃ g c, e = .returned (.slice (some ⟨g, 0, none⟩) 2 c) ∧ Only (W.heap.size ≤ ·) W w' :=
  (Union_c W v u l3 l2 h h' (i64_of r3) (i64_of r2)).mono fun e w' ⟨v', n, uu, h1, h2, h3, h4⟩ => by
    obtain ⟨g, c, e', hr⟩ := lit_of (W := W) (l := l3) h2 (right_unique h3.1 r3 fun p => (h3.2 p).trans (by dsimp only; rw [mem_of r3, mem_of r2]; simp [l2, l3, inn])) (by decide)
    subst e'
    exact ⟨g, c, h1, h4⟩
theorem of_lit (W : World) : Calls Try.prog 22 #[.slice (some ⟨W.heap.size, 0, none⟩) 2 2] (W.alloc (.cells #[.int .i64 5, .int .i64 4] 3)) fun e w' => ∃ g c, e = .returned (.slice (some ⟨g, 0, none⟩) 1 c) ∧ Only (W.heap.size ≤ ·) W w' := by
  have hb : Blk (W.alloc (.cells #[.int .i64 5, .int .i64 4] 3)) W.heap.size 3 [.int .i64 5, .int .i64 4] := Blk.new W _ _
  refine (Of_c (W.alloc (.cells #[.int .i64 5, .int .i64 4] 3)) _ 2 2 [5, 4] (.inr ⟨_, _, _, rfl, hb.lt, fun j hj => ?_⟩) rfl (by decide) (by decide)).mono fun e w' ⟨v', n, uu, h1, h2, h3, h4⟩ => ?_
  · rw [Nat.zero_add, hb.cell]
    simp at hj
    rcases (by omega : j = 0 ∨ j = 1) with rfl | rfl <;> rfl
  · obtain ⟨g, c, e', hr⟩ := lit_of (W := W) (l := l4) h2 (right_unique h3.1 r4 fun p => (h3.2 p).trans (by simp [l4, inn]; omega)) (by decide)
    subst e'
    exact ⟨g, c, h1, on_new ((Only.refl _ W).alloc (fun _ h => h) _) h4⟩

theorem row_cells {W : World} {g c : Nat} (h : Row W (.slice (some ⟨g, 0, none⟩) 1 c) l1) : W.cell? ⟨g, 0, none⟩ = some (.int .i64 2) ∧ W.cell? ⟨g, 1, none⟩ = some (.int .i64 5) := by
  obtain ⟨A, c', e, h1, _⟩ := h
  simp only [Value.slice.injEq] at e
  obtain ⟨rfl, h2, rfl⟩ := e
  obtain ⟨b, off, e, hb, hc⟩ := h1 (by decide)
  simp only [Option.some.injEq, Addr.mk.injEq, and_true] at e
  obtain ⟨rfl, rfl⟩ := e
  exact ⟨hc 0 _ rfl, hc 1 _ rfl⟩

set_option maxRecDepth 100000 in
set_option maxHeartbeats 6400000 in
theorem alive_c (w : World) : Calls Try.prog 11 #[] w (Told w (.bool true)) := by
  have HB0 : Hid (Row (w.alloc (.cells #[.int .i64 2, .int .i64 2, .int .i64 6, .int .i64 1] 44)) (.slice (some ⟨w.heap.size, 0, none⟩) 2 2) l0) := blk_row (l := l0) (Blk.new w 44 [.int .i64 2, .int .i64 2, .int .i64 6, .int .i64 1]) (by decide)
  have HO0 : Hid (Only (w.heap.size ≤ ·) w (w.alloc (.cells #[.int .i64 2, .int .i64 2, .int .i64 6, .int .i64 1] 44))) := (Only.refl _ w).alloc (fun _ h => h) _
  have heq : ∀ W : World, (binOp .eql 44 (.agg #[.int .i64 2, .int .i64 5]) (.agg #[.int .i64 2, .int .i64 5])).run Try.prog W = .ok (.bool true) W := fun W => by rw [eqlRun]; rfl
  go_enter Try.func11, Try.ntmps11
  go_wp2_with (first
    | (go_at_call 25; refine (add_lit _ _ HB0.out).mono ?_; rintro e w1 ⟨g1, c1, rfl, h1, ho1⟩; have HL := Lib.hid h1; have HO1 := Lib.hid (on_new HO0.out ho1); clear h1 ho1)
    | (go_at_call 29; refine (take_lit _ _ HL.out).mono ?_; rintro e w2 ⟨g2, c2, rfl, h1, ho1⟩; have HR := Lib.hid h1; have HO2 := Lib.hid (on_new HO1.out ho1); have HL2 := Lib.hid (HL.out.later ho1); clear h1 ho1)
    | (go_at_call 26; refine (drop_lit _ _ HL2.out).mono ?_; rintro e w3 ⟨g3, c3, rfl, h1, ho1⟩; have HM := Lib.hid h1; have HO3 := Lib.hid (on_new HO2.out ho1); have HL3 := Lib.hid (HL2.out.later ho1); have HR3 := Lib.hid (HR.out.later ho1); clear h1 ho1)
    | (go_at_call 13; refine (pages_lit _ _ HM.out).mono ?_; rintro e w4 ⟨g4, c4, rfl, h1, h2, ho1⟩; have HP := Lib.hid (And.intro h1 h2); have HO4 := Lib.hid (on_new HO3.out ho1); have HL4 := Lib.hid (HL3.out.later ho1); have HR4 := Lib.hid (HR3.out.later ho1); have HM4 := Lib.hid (HM.out.later ho1); have HC4 := Lib.hid (row_cells HL4.out); obtain ⟨hz1, hz2⟩ := HC4.out; clear h1 h2 ho1)
    | (go_at_call 17; refine (count_lit _ _ HR4.out).mono ?_; rintro e w5 ⟨rfl, ho1⟩; have HO5 := Lib.hid ho1; have hp1 := (ho1.cell (p := ⟨g4, 1, none⟩) (Nat.not_le.2 HP.out.2)).trans HP.out.1; clear ho1)
    | (go_at_call 19; (with_reducible refine (has6_lit _ _ (HM4.out.later HO5.out)).mono ?_); rintro e w6 ⟨rfl, ho1⟩; have HO6 := Lib.hid (on_new HO5.out ho1); clear ho1)
    | (go_at_call 19; (with_reducible refine (has3_lit _ _ (HM4.out.later HO6.out)).mono ?_); rintro e w7 ⟨rfl, ho1⟩; have HO7 := Lib.hid (on_new HO6.out ho1); clear ho1)
    | (go_at_call 18; refine (end_lit _ _ (HL4.out.later HO7.out)).mono ?_; rintro e w8 ⟨rfl, ho1⟩; have HO8 := Lib.hid (on_new HO7.out ho1); clear ho1)
    | (go_at_call 28; refine (meet_lit _ _ _ (HL4.out.later HO8.out) (HM4.out.later HO8.out)).mono ?_; rintro e w9 ⟨rfl, ho1⟩; have HO9 := Lib.hid (on_new HO8.out ho1); clear ho1)
    | (go_at_call 15; refine (right_lit _ _ _ (HM4.out.later HO9.out)).mono ?_; rintro e w10 ⟨rfl, ho1⟩; have HO10 := Lib.hid (on_new HO9.out ho1); clear ho1)
    | (go_at_call 27; refine (union_lit _ _ _ (HM4.out.later HO10.out) (HR4.out.later HO10.out)).mono ?_; rintro e w11 ⟨g11, c11, rfl, ho1⟩; have HO11 := Lib.hid (on_new HO10.out ho1); clear ho1)
    | (go_at_call 22; refine (of_lit w11).mono ?_; rintro e w12 ⟨g12, c12, rfl, ho1⟩; have HO12 := Lib.hid (on_new HO11.out ho1); clear ho1))
  go_ret
  exact ⟨rfl, on_new HO4.out HO12.out⟩
end Go.Proofs.Ytjnaejogclmooaa
