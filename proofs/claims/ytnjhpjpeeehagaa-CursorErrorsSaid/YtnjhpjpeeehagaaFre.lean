/-
  What lies in no variable of a node's type: rows and bytes stay while such a variable is written.
-/
import Derived.Test.YtnjhpjpeeehagaaStb
set_option linter.unusedVariables false
namespace Go.Proofs.Ytnjhpjpeeehagaa
open Go.RowKit

theorem spotF {w : World} {a : Addr} {v : Value} (h : w.cell? a = some v) : a = ⟨a.block, a.off, none⟩ := by
  unfold World.cell? at h
  split at h
  · split at h
    · cases h
    · rename_i hs
      cases a
      simp at hs ⊢
      exact hs
  · cases h
section
variable {w : World} {g : Nat} {t : TypeId} {f' : Bool} {P' Q' : Option Addr} {p1 p2 q1 q2 : Nat}
theorem no_int (hb : Blk w g t [.bool f', .slice P' p1 p2, .slice Q' q1 q2]) {a : Addr} {k : IntKind} {z : Int} (h : w.cell? a = some (.int k z)) : a.block ≠ g := by
  intro e
  have hs := spotF h
  rw [hs, e, hb.cell] at h
  generalize a.off = o at h
  match o, h with
  | 0, h => cases h
  | 1, h => cases h
  | 2, h => cases h
  | o + 3, h => simp at h
theorem src_free (hb : Blk w g t [.bool f', .slice P' p1 p2, .slice Q' q1 q2]) {v : Value} {xs : Bytes} (h : Src w v xs) : Stab (· = g) w (fun W => Src W v xs) := fun W hW => by
  obtain ⟨A, c, h1, ⟨h2, h3⟩, h4⟩ := h
  refine ⟨A, c, h1, ⟨h2, fun hn => ?_⟩, h4⟩
  obtain ⟨ad, e, hc⟩ := h3 hn
  refine ⟨ad, e, fun j u hu => (hW.cell (p := ad.add j) ?_).trans (hc j u hu)⟩
  obtain ⟨x, hx⟩ : ∃ x, xs[j]? = some x := ⟨_, List.getElem?_eq_getElem (by have := (List.getElem?_eq_some_iff.1 hu).1; unfold cb at this; simpa using this)⟩
  have hu' : (cb xs)[j]? = some (.int .u8 x.toNat) := by
    unfold cb
    rw [List.getElem?_map, hx]
    rfl
  have hcj := hc j _ hu'
  have hne := no_int hb hcj
  have hlt := World.block_lt_of_cell? w _ hcj
  rintro (h | h)
  · exact hne h
  · omega
theorem rw_free {α : Type} {E : El α} (hz : 0 < E.z) (hAt : ∀ x cs, E.At w x cs → Stab (· = g) w (fun W => E.At W x cs)) (hno : ∀ x cs, E.At w x cs → ∃ (j : Nat) (n : Int), cs[j]? = some (.int .i64 n))
    (hb : Blk w g t [.bool f', .slice P' p1 p2, .slice Q' q1 q2]) {v : Value} {l : List α} (h : Rw E w v l) : SRw E (· = g) w v l := by
  obtain ⟨A, c, C, h1, h2, h3, h4, h5, h6⟩ := h
  have hC := Den.length (fun _ _ => E.len) h2
  have hone := Den.one (fun _ _ => E.one) h2
  have hden : ∀ W, Only (fun k => k = g ∨ w.heap.size ≤ k) w W → Den (E.At W) l C := fun W hW => h2.mono fun x cs hx => hAt x cs hx W hW
  refine ⟨C, fun W hW => ⟨hden W hW, A, c, h1, hC, ?_, h4, h5, h6, hone⟩⟩
  refine h3.on hW fun b off hn e => ?_
  obtain ⟨b', off', e', hlt, hc⟩ := h3 hn
  rw [e] at e'
  cases e'
  rintro (h | h)
  · subst h
    obtain ⟨x, hx⟩ : ∃ x, l[0]? = some x := ⟨_, List.getElem?_eq_getElem (by
      rw [hC] at hn
      exact Nat.pos_of_mul_pos_right hn)⟩
    obtain ⟨cs, hcs, hg⟩ := h2.get (fun _ _ => E.len) hx
    obtain ⟨j, n, hj⟩ := hno x cs hcs
    exact no_int hb (hc _ _ (hg j _ hj)) rfl
  · omega
theorem nod_free (hb : Blk w g t [.bool f', .slice P' p1 p2, .slice Q' q1 q2]) {x : Nd} {f : Bool} {v u : Value} (h : Nod w x f v u) : SNod (· = g) w x f v u := by
  refine ⟨h.1, rw_free (E := itE) (by decide) ?_ ?_ hb h.2.1, rw_free (E := kdE) (by decide) ?_ ?_ hb h.2.2⟩
  · rintro x cs ⟨A, c, B, d, e, h1, h2⟩ W hW
    exact ⟨A, c, B, d, e, src_free hb h1 W hW, src_free hb h2 W hW⟩
  · rintro x cs ⟨A, c, B, d, rfl, h1, h2⟩
    exact ⟨2, _, rfl⟩
  · rintro x cs ⟨A, c, e, h1⟩ W hW
    exact ⟨A, c, e, src_free hb h1 W hW⟩
  · rintro x cs ⟨A, c, rfl, h1⟩
    exact ⟨1, _, rfl⟩
end
end Go.Proofs.Ytnjhpjpeeehagaa
