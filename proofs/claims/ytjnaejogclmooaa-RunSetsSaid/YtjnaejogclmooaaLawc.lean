/-
  What the laws call, over values.
-/
import Derived.Test.YtjnaejogclmooaaAliv
import Derived.Test.YtjnaejogclmooaaSame
import Derived.Test.YtjnaejogclmooaaRuns
set_option linter.unusedVariables false
namespace Go.Proofs.Ytjnaejogclmooaa
open Go.RowKit

/-- A value that holds these runs, told behind the call. -/
def Gives (W : World) (l : List R) (e : Ending) (w' : World) : Prop := (∃ v, e = .returned v ∧ Row w' v l) ∧ Only (W.heap.size ≤ ·) W w'
def GivesU (W : World) (S : Int → Prop) (e : Ending) (w' : World) : Prop := (∃ v u, e = .returned v ∧ Row w' v u ∧ IsRow u S) ∧ Only (W.heap.size ≤ ·) W w'
theorem few_v (W : World) (v : Value) (l : List R) (h : Row W v l) : Calls Try.prog 10 #[v] W (Told W (.bool (short l))) := by
  obtain ⟨A, c, rfl, h1, _, h3, h4⟩ := h
  exact few_c W A _ c l h1 rfl (by omega)
theorem of_v (W : World) (v : Value) (l : List R) (h : Row W v l) (hn : l.length ≤ 1000000) : Calls Try.prog 14 #[v] W (Gives W l) := by
  obtain ⟨A, c, rfl, h1, _, h3, h4⟩ := h
  exact (of_c W A _ c l h1 rfl hn).mono fun e w' ⟨v, e1, h, ho⟩ => ⟨⟨v, e1, h.row⟩, ho⟩
theorem old_v (W : World) (v : Value) (l : List R) (h : Row W v l) (hn : l.length ≤ 1000000) : Calls Try.prog 21 #[v] W (Gives W l) := by
  obtain ⟨A, c, rfl, h1, _, h3, h4⟩ := h
  exact (old_c W A _ c l h1 rfl hn).mono fun e w' ⟨v, e1, h, ho⟩ => ⟨⟨v, e1, h.row⟩, ho⟩
theorem Same_v (W : World) (v u : Value) (l r : List R) (h : Row W v l) (h' : Row W u r) : Calls Try.prog 20 #[v, u] W (Told W (.bool (decide (l = r)))) := by
  obtain ⟨A, c, rfl, h1, _, h3, h4⟩ := h
  obtain ⟨B, d, rfl, k1, _, k3, k4⟩ := h'
  exact Same_c W A B _ _ c d l r h1 k1 rfl rfl (by omega) (by omega)
theorem Same_t (W : World) (v u : Value) (l r : List R) (h : Row W v l) (h' : Row W u r) (e : l = r) : Calls Try.prog 20 #[v, u] W (Told W (.bool true)) := by
  have := Same_v W v u l r h h'
  rwa [decide_eq_true e] at this
theorem Set_v (W : World) (v : Value) (l : List R) (h : Row W v l) (hr : ∀ x ∈ l, I64 x) : Calls Try.prog 12 #[v, .int .i64 600] W fun e w' => ∃ g, e = .returned (.slice (some ⟨g, 0, none⟩) 600 600) ∧ W.heap.size ≤ g ∧ Blk w' g 4 (bf (setOf l) 600) ∧ Only (W.heap.size ≤ ·) W w' := by
  obtain ⟨A, c, rfl, h1, _, h3, h4⟩ := h
  exact Set_c W A _ c 600 l h1 rfl hr h3 h4 (by decide)
theorem Runs_v (W : World) (g : Nat) (f : Nat → Bool) (h : Blk W g 4 (bf f 600)) : Calls Try.prog 23 #[.slice (some ⟨g, 0, none⟩) 600 600] W (Gives W (runsOf f 600)) :=
  (Runs_c W g 600 600 f [] (by simpa using h) (by decide)).mono fun e w' ⟨v, e1, h, ho⟩ => ⟨⟨v, e1, h.row⟩, ho⟩
theorem Union_v (W : World) (v u : Value) (a b : List R) (h : Row W v a) (h' : Row W u b) (hra : ∀ x ∈ a, I64 x) (hrb : ∀ x ∈ b, I64 x) : Calls Try.prog 27 #[v, u] W (GivesU W fun p => Mem a p ∨ Mem b p) :=
  (Union_c W v u a b h h' hra hrb).mono fun e w' ⟨v, n, u, h1, h2, h3, h4⟩ => ⟨⟨v, u, h1, h2.row, h3⟩, h4⟩
/-- A flag known by what it stands for. -/
def Flag (W : World) (S : Prop) (e : Ending) (w' : World) : Prop := (∃ r : Bool, e = .returned (.bool r) ∧ (r = true ↔ S)) ∧ Only (W.heap.size ≤ ·) W w'
theorem Meet_v (W : World) (v u : Value) (a b : List R) (h : Row W v a) (h' : Row W u b) (hra : ∀ x ∈ a, I64 x) (hrb : ∀ x ∈ b, I64 x) : Calls Try.prog 28 #[v, u] W (Flag W (∃ p, Mem a p ∧ Mem b p)) :=
  (Meet_c W v u a b h h' hra hrb).mono fun e w' ⟨r, h1, h2, h3⟩ => ⟨⟨r, h1, h2⟩, h3⟩
theorem Right_v (W : World) (v : Value) (l : List R) (h : Row W v l) (hr : ∀ x ∈ l, I64 x) : Calls Try.prog 15 #[v] W (Told W (.bool (right l))) := by
  obtain ⟨A, c, rfl, h1, _, h3, h4⟩ := h
  exact Right_c W A _ c l h1 rfl hr h3 h4
theorem Right_t (W : World) (v : Value) (l : List R) (h : Row W v l) (hr : right l = true) : Calls Try.prog 15 #[v] W (Told W (.bool true)) := by
  have := Right_v W v l h (i64_of hr)
  rwa [hr] at this

theorem short_iff {l : List R} (h : short l = true) : l.length ≤ 60 ∧ ∀ x ∈ l, may x = true → x.1 + x.2 ≤ 600 := by
  unfold short at h
  rw [Bool.and_eq_true, decide_eq_true_iff, List.all_eq_true] at h
  refine ⟨h.1, fun x hx hm => ?_⟩
  have := h.2 x hx
  rw [hm] at this
  simp at this
  exact this
theorem known_mem {l : List R} {x : R} (h : x ∈ known l) : x ∈ l := by
  unfold known at h
  split at h
  · exact h
  · cases h
theorem mem_range {l : List R} (h : short l = true) {p : Int} (hp : Mem l p) : 0 ≤ p ∧ p < 600 := by
  obtain ⟨x, hx, hw⟩ := (inn_iff _ _).1 hp
  have hm := right_may (known_right l) x hx
  have := (short_iff h).2 x (known_mem hx) hm
  have hm' := (may_iff x).1 hm
  unfold within at hw
  omega
theorem bit_of {f : Nat → Bool} {S : Int → Prop} (h : ∀ q : Nat, q < 600 → (f q = true ↔ S q)) (hr : ∀ p, S p → 0 ≤ p ∧ p < 600) (p : Int) : Bit f 600 p ↔ S p := by
  constructor
  · rintro ⟨q, h1, rfl, h3⟩
    exact (h q h1).1 h3
  · intro hp
    have := hr p hp
    exact ⟨p.toNat, by omega, by omega, (h p.toNat (by omega)).2 (by rwa [show ((p.toNat : Nat) : Int) = p by omega])⟩
/-- The runs of a row of yes and no are the one right row of these pages. -/
theorem runs_eq {f : Nat → Bool} {S : Int → Prop} {u : List R} (h : ∀ q : Nat, q < 600 → (f q = true ↔ S q)) (hr : ∀ p, S p → 0 ≤ p ∧ p < 600) (hu : IsRow u S) : u = runsOf f 600 :=
  hu.eq ((runsOf_row f 600 (by decide)).congr (bit_of h hr))
theorem row_len {u : List R} {S : Int → Prop} (h : IsRow u S) : u.length ≤ 1000000 := Nat.le_trans (right_length h.1) (by decide)
theorem setOf_iff (l : List R) (q : Nat) : setOf l q = true ↔ Mem l q := Iff.rfl
theorem mem_isRow {u : List R} {S : Int → Prop} (h : IsRow u S) (p : Int) : Mem u p ↔ S p := by
  unfold Mem
  rw [known_of h.1]
  exact h.2 p
end Go.Proofs.Ytjnaejogclmooaa
