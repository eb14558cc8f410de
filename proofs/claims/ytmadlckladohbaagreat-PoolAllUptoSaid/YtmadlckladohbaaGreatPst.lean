/-
  A pool in memory: what it has, as plain data.
-/
import Derived.Test.YtmadlckladohbaaGreatPags
import Derived.Test.YtmadlckladohbaaGreatTake
import Derived.Test.YtmadlckladohbaaGreatOf
import Derived.Maps.RangeWalk
import Derived.Maps.Views
set_option linter.unusedVariables false
namespace Go.Proofs.YtmadlckladohbaaGreat
open Go.RowKit

theorem i64_of {l : List R} (h : right l = true) : ∀ y ∈ l, I64 y := fun y hy => may_i64 (right_may h y hy)
/-- The slice's block is another one (asked only of a slice that has a run). -/
def Off (g : Nat) (v : Value) (l : List R) : Prop := 0 < l.length → ∀ b off n c, v = .slice (some ⟨b, off, none⟩) n c → b ≠ g
theorem Off.nil_ (g : Nat) (v : Value) : Off g v [] := fun h => absurd h (by decide)
theorem Row.off_new {w : World} {g : Nat} {v : Value} {l : List R} (h : Row w v l) (hg : w.heap.size ≤ g) : Off g v l := fun hn b off n c e => by
  obtain ⟨A, c', rfl, hr, _⟩ := h
  obtain ⟨b', off', e', hb, _⟩ := hr hn
  cases e
  cases e'
  omega
theorem Row.form {w : World} {v : Value} {l : List R} (h : Row w v l) : ∃ A n c, v = .slice A n c := by
  obtain ⟨A, c, e, _⟩ := h
  exact ⟨A, _, c, e⟩
theorem own_off {w : World} {B n g : Nat} {v : Value} {l : List R} (h : OwnN w B v n l) (hg : g < B) : Off g v l := fun hn b off n' c e => by
  have := (World.ownsRow.lt h.2 b (by rw [e]; rfl)).1
  omega
theorem cell_map {w : World} {k : Nat} {es : Array MapEntry} {c : Nat} (h : w.heap[k]? = some (.map es c)) (o : Nat) : w.cell? ⟨k, o, none⟩ = none := by
  simp [World.cell?, h]
/-- A row stays where only new blocks, other ones and maps have changed. -/
theorem Row.past {w w' : World} {F : Nat → Prop} {v : Value} {l : List R} (h : Row w v l) (ho : Only F w w')
    (hF : ∀ k, F k → w.heap.size ≤ k ∨ Off k v l ∨ ∃ es c, w.heap[k]? = some (.map es c)) : Row w' v l := by
  obtain ⟨A, c, rfl, hr, rest⟩ := h
  refine ⟨A, c, rfl, hr.on ho (fun b off hn hA hFb => ?_), rest⟩
  obtain ⟨b', off', e', hb, hc⟩ := hr hn
  rw [hA] at e'
  cases e'
  rcases hF b hFb with h | h | ⟨es, ck, h⟩
  · omega
  · exact h hn b off _ _ (by rw [hA]) rfl
  · obtain ⟨x, hx⟩ : ∃ x, l[0]? = some x := ⟨_, List.getElem?_eq_getElem hn⟩
    have := hc 0 _ (rc_get0 hx)
    rw [cell_map h] at this
    cases this

theorem keyed : Maps.Keyed Tryz.prog 3 := Maps.int_keyed Tryz.underlying3
/-- A map's element, read as itself. -/
def Rv (v : Value) : Option (DataW Value × List MemPlace) := some (.held v, [])
def nilV : Value := .slice none 0 0
def MapB (w : World) (mb n : Nat) (D : DataW Value) : Prop := w.ownsMap Tryz.prog 3 Rv mb n D
section
variable {w w' : World} {pb mb n : Nat} {D : DataW Value} {F : Nat → Prop}
theorem MapB.block (h : MapB w mb n D) : ∃ es c, w.heap[mb]? = some (.map es c) := by
  obtain ⟨es, c, hb, _⟩ := h
  exact ⟨es, c, hb⟩
theorem MapB.on (h : MapB w mb n D) (ho : Only F w w') (hF : ¬ F mb) : MapB w' mb n D := by
  obtain ⟨es, c, hb, rest⟩ := h
  exact ⟨es, c, (ho.block mb hF).trans hb, rest⟩
theorem MapB.lt (h : MapB w mb n D) : mb < w.heap.size := World.ownsMap.lt h

/-- What each transaction holds. -/
def HoldsAt (w : World) (pb : Nat) (D : DataW Value) (H : Int → Int → Prop) : Prop :=
  ∀ t : Int, ∃ v l, D.atKey (.int .i64 t) (.held nilV) = .held v ∧ Row w v l ∧ Off pb v l ∧ IsRow l (H t)

/-- A pool as plain data: how many pages, the limit, which are free, which a transaction holds. -/
structure PS where
  pages : Int
  limit : Int
  F : Int → Prop
  H : Int → Int → Prop

structure PS.Ok (S : PS) : Prop where
  lo : 2 ≤ S.pages
  hi : S.pages ≤ S.limit
  top : S.limit ≤ 16384
  free : ∀ p, S.F p → 2 ≤ p ∧ p < S.pages
  held : ∀ t p, S.H t p → 0 ≤ t ∧ 2 ≤ p ∧ p < S.pages
  apart : ∀ t p, S.H t p → ¬ S.F p
  one : ∀ t u p, S.H t p → S.H u p → t = u

def AtD (w : World) (pb mb n : Nat) (S : PS) (fv : Value) (fl : List R) (D : DataW Value) : Prop :=
  Blk w pb 68 [.int .i64 S.pages, .int .i64 S.limit, fv, .map (some mb)] ∧ Row w fv fl ∧ Off pb fv fl ∧ IsRow fl S.F ∧ MapB w mb n D ∧ HoldsAt w pb D S.H
def At (w : World) (pb mb n : Nat) (S : PS) : Prop := ∃ fv fl D, AtD w pb mb n S fv fl D

def Touch (pb mb : Nat) (w w' : World) : Prop := Only (fun k => w.heap.size ≤ k ∨ k = pb ∨ k = mb) w w'
theorem Touch.new (h : Only (w.heap.size ≤ ·) w w') : Touch pb mb w w' := Only.mono h fun k hk => .inl hk
theorem Touch.trans {w'' : World} (h : Touch pb mb w w') (k : Touch pb mb w' w'') : Touch pb mb w w'' :=
  Only.trans h (Only.mono k fun i hi => by
    rcases hi with hi | hi
    · exact .inl (Nat.le_trans (Only.size h) hi)
    · exact .inr hi)
theorem Touch.down {B : Nat} (h : Touch pb mb w w') (hB : B ≤ w.heap.size) (hp : B ≤ pb) (hm : B ≤ mb) : Only (B ≤ ·) w w' :=
  Only.mono h fun k hk => by
    rcases hk with hk | rfl | rfl
    · exact Nat.le_trans hB hk
    · exact hp
    · exact hm
theorem Row.touch {v : Value} {l : List R} (h : Row w v l) (hoff : Off pb v l) (hm : ∃ es c, w.heap[mb]? = some (.map es c)) (ho : Touch pb mb w w') : Row w' v l :=
  h.past ho fun k hk => by
    rcases hk with hk | rfl | rfl
    · exact .inl hk
    · exact .inr (.inl hoff)
    · exact .inr (.inr hm)
theorem HoldsAt.past {H : Int → Int → Prop} (h : HoldsAt w pb D H) (ho : Only F w w') (hF : ∀ k, F k → w.heap.size ≤ k ∨ k = pb ∨ ∃ es c, w.heap[k]? = some (.map es c)) : HoldsAt w' pb D H := fun t => by
  obtain ⟨v, l, h1, h2, h3, h4⟩ := h t
  refine ⟨v, l, h1, h2.past ho (fun k hk => ?_), h3, h4⟩
  rcases hF k hk with h | rfl | h
  · exact .inl h
  · exact .inr (.inl h3)
  · exact .inr (.inr h)
theorem AtD.later {S : PS} {fv : Value} {fl : List R} (h : AtD w pb mb n S fv fl D) (ho : Only (w.heap.size ≤ ·) w w') : AtD w' pb mb n S fv fl D := by
  obtain ⟨h1, h2, h3, h4, h5, h6⟩ := h
  exact ⟨h1.only ho (by have := h1.lt; omega), h2.later ho, h3, h4, h5.on ho (by have := h5.lt; omega), h6.past ho fun k hk => .inl hk⟩
theorem At.later {S : PS} (h : At w pb mb n S) (ho : Only (w.heap.size ≤ ·) w w') : At w' pb mb n S := by
  obtain ⟨fv, fl, D, h⟩ := h
  exact ⟨fv, fl, D, h.later ho⟩
theorem At.map {S : PS} (h : At w pb mb n S) : ∃ es c, w.heap[mb]? = some (.map es c) := by
  obtain ⟨fv, fl, D, _, _, _, _, h5, _⟩ := h
  exact h5.block
theorem At.lt {S : PS} (h : At w pb mb n S) : pb < w.heap.size ∧ mb < w.heap.size := by
  obtain ⟨fv, fl, D, h1, _, _, _, h5, _⟩ := h
  exact ⟨h1.lt, h5.lt⟩
theorem AtD.cells {S : PS} {fv : Value} {fl : List R} (h : AtD w pb mb n S fv fl D) : w.cell? ⟨pb, 0, none⟩ = some (.int .i64 S.pages) ∧ w.cell? ⟨pb, 1, none⟩ = some (.int .i64 S.limit) ∧ w.cell? ⟨pb, 2, none⟩ = some fv ∧ w.cell? ⟨pb, 3, none⟩ = some (.map (some mb)) := by
  have h1 := h.1
  exact ⟨by rw [h1.cell]; rfl, by rw [h1.cell]; rfl, by rw [h1.cell]; rfl, by rw [h1.cell]; rfl⟩
theorem AtD.frozen {S : PS} {fv : Value} {fl : List R} (h : AtD w pb mb n S fv fl D) (i : Nat) : w.frozen? ⟨pb, i, none⟩ = false := h.1.frozen i
/-- The pool's own block is written anew. -/
theorem AtD.put {S : PS} {fv : Value} {fl : List R} (h : AtD w pb mb n S fv fl D) (ho : Only (· = pb) w w') {a : Int} {gv : Value} {gl : List R} {G : Int → Prop}
    (hb : Blk w' pb 68 [.int .i64 a, .int .i64 S.limit, gv, .map (some mb)]) (hg : Row w gv gl) (hgo : Off pb gv gl) (hgr : IsRow gl G) : AtD w' pb mb n { S with pages := a, F := G } gv gl D := by
  obtain ⟨h1, h2, h3, h4, h5, h6⟩ := h
  have hne : ¬ mb = pb := by
    rintro rfl
    obtain ⟨es, c, e⟩ := h5.block
    have := h1
    unfold Blk at this
    rw [e] at this
    cases this
  exact ⟨hb, hg.past ho (fun k hk => by subst hk; exact .inr (.inl hgo)), hgo, hgr, h5.on ho hne, h6.past ho fun k hk => .inr (.inl hk)⟩
end
end Go.Proofs.YtmadlckladohbaaGreat
