/-
  What the laws call, over values; a pool that is made, or none.
-/
import Derived.Test.YtmadlckladohbaaGreatPal
import Derived.Test.YtmadlckladohbaaGreatPfw
import Derived.Test.YtmadlckladohbaaGreatCopy
set_option linter.unusedVariables false
namespace Go.Proofs.YtmadlckladohbaaGreat
open Go.RowKit Go.Shelf

/-- A slice of runs comes back. -/
def Rows2 (w : World) (l : List R) (e : Ending) (w' : World) : Prop := (∃ A n c, e = .returned (.slice A n c) ∧ Row w' (.slice A n c) l) ∧ Only (w.heap.size ≤ ·) w w'
theorem old_b {w : World} {v : Value} {l : List R} (h : Row w v l) (hn : l.length ≤ 1000000) : Calls Tryz.prog 31 #[v] w (Rows2 w l) := by
  obtain ⟨A, c, rfl, h1, _, h3, h4⟩ := h
  refine (old_c w A _ c l h1 rfl hn).mono fun e w' ⟨v, e1, h, ho⟩ => ?_
  obtain ⟨A', n', c', rfl⟩ := h.row.form
  exact ⟨⟨A', n', c', e1, h.row⟩, ho⟩
theorem same_t {w : World} {v u : Value} {l r : List R} (h : Row w v l) (h' : Row w u r) (e : l = r) : Calls Tryz.prog 30 #[v, u] w (Told w (.bool true)) := by
  obtain ⟨A, c, rfl, h1, _, h3, h4⟩ := h
  obtain ⟨B, d, rfl, k1, _, k3, k4⟩ := h'
  have := Same_c w A B _ _ c d l r h1 k1 rfl rfl (by omega) (by omega)
  rwa [decide_eq_true e] at this
theorem New_not {w : World} {A B : Option Addr} {nn cc mm dd : Nat} {a b : List R} {t p l : Int} (ha : Row w (.slice A nn cc) a) (hb : Row w (.slice B mm dd) b) (hai : ∀ x ∈ a, I64 x) (hbi : ∀ x ∈ b, I64 x) (hx : ¬ NewOk a b t p l) :
    Calls Tryz.prog 6 #[.agg #[.slice A nn cc, .slice B mm dd], .int .i64 t, .int .i64 p, .int .i64 l] w (NewNo w) := by
  by_cases h : p < 2 ∨ l < p ∨ 16384 < l ∨ t < 0
  · exact New_arg w _ A B nn cc mm dd t p l rfl h
  · exact New_no w A B nn cc mm dd a b t p l ha hb hai hbi h hx
theorem pages_b {w : World} {pb mb n : Nat} {S : PS} (h : At w pb mb n S) {x : Int} (hx : x = S.pages) : Calls Tryz.prog 20 #[.pointer (some ⟨pb, 0, none⟩)] w (Told w (.int .i64 x)) := by
  rw [hx]
  exact pPages_c w pb mb n S h
theorem row_len {u : List R} {S : Int → Prop} (h : IsRow u S) : u.length ≤ 1000000 := Nat.le_trans (right_length h.1) (by decide)
theorem box_three {w : World} {bx : Nat} {t : TypeId} {u v x : Value} (h : Blk w bx t [u, v, x]) : w.cell? ⟨bx, 0, none⟩ = some u ∧ w.cell? ⟨bx, 1, none⟩ = some v ∧ w.cell? ⟨bx, 2, none⟩ = some x := ⟨by rw [h.cell]; rfl, by rw [h.cell]; rfl, by rw [h.cell]; rfl⟩
/-- The slice's address holds these numbers. -/
def Ns (w : World) (A : Option Addr) (l : List Int) : Prop := 0 < l.length → ∃ b off, A = some ⟨b, off, none⟩ ∧ b < w.heap.size ∧ ∀ (j : Nat) z, l[j]? = some z → w.cell? ⟨b, off + j, none⟩ = some (.int .i64 z)
theorem Ns.later {w w' : World} {A : Option Addr} {l : List Int} (h : Ns w A l) (ho : Only (w.heap.size ≤ ·) w w') : Ns w' A l := fun hn => by
  obtain ⟨b, off, e, hb, hc⟩ := h hn
  exact ⟨b, off, e, Nat.lt_of_lt_of_le hb ho.size, fun j u hu => (ho.cell (p := ⟨b, off + j, none⟩) (Nat.not_le.2 hb)).trans (hc j u hu)⟩
theorem Ns.at_ {w : World} {A : Option Addr} {l : List Int} (h : Ns w A l) {k : Nat} (hk : k < l.length) : ∃ b off z, A = some ⟨b, off, none⟩ ∧ l[k]? = some z ∧ w.cell? ⟨b, off + k, none⟩ = some (.int .i64 z) := by
  obtain ⟨b, off, e, hb, hc⟩ := h (by omega)
  have hx : l[k]? = some l[k] := List.getElem?_eq_getElem hk
  exact ⟨b, off, l[k], e, hx, hc k _ hx⟩
/-- The first run that has room: where it stands. -/
theorem first_at {S : PS} (hok : S.Ok) {fl : List R} (hr : IsRow fl S.F) {m : Int} {k : Nat} {r : R} (hf : First fl m k r) : 2 ≤ r.1 ∧ r.1 + m ≤ S.pages ∧ m ≤ r.2 ∧ ∀ p, within r p → S.F p := by
  obtain ⟨h1, h2, h3, _⟩ := hf
  rw [known_of hr.1] at h2
  have hx := List.mem_of_getElem? h2
  have hm := (may_iff r).1 (right_may hr.1 r hx)
  have hin : ∀ p, within r p → S.F p := fun p hp => (hr.2 p).1 ((inn_iff _ _).2 ⟨r, hx, hp⟩)
  have e1 := hok.free _ (hin r.1 ⟨by omega, by omega⟩)
  have e2 := hok.free _ (hin (r.1 + r.2 - 1) ⟨by omega, by omega⟩)
  exact ⟨e1.1, by omega, h3, hin⟩
theorem tail_two {S : PS} (hok : S.Ok) {a : Int} (ha : IsTail S a) : 2 ≤ a := by
  obtain ⟨h1, h2, h3, h4⟩ := ha
  have := hok.lo
  rcases Int.lt_or_le a 2 with h | h
  · have := hok.free a (h1 a (Int.le_refl _) (by omega))
    omega
  · exact h
end Go.Proofs.YtmadlckladohbaaGreat
