/-
  What stays true whatever is done to some blocks, and to new ones; headed.
-/
import Derived.Test.YtnjhpjpeeehagaaSwp
import Derived.Test.YtnjhpjpeeehagaaPln
import Derived.Laws.OwnMore
set_option linter.unusedVariables false
namespace Go.Proofs.Ytnjhpjpeeehagaa
open Go.RowKit

/-- It holds now, and whatever is done to blocks of which F speaks, and to new ones. -/
def Stab (F : Nat → Prop) (w : World) (P : World → Prop) : Prop := ∀ W, Only (fun k => F k ∨ w.heap.size ≤ k) w W → P W
section
variable {F F' : Nat → Prop} {w w' : World} {P Q : World → Prop}
theorem Stab.now (h : Stab F w P) : P w := h w (Only.refl _ _)
theorem Stab.later_of (hP : ∀ W, Only (w.heap.size ≤ ·) w W → P W) : Stab (fun _ => False) w P := fun W hW => hP W (hW.mono fun k hk => by simpa using hk)
theorem Stab.imp (h : Stab F w P) (hPQ : ∀ W, P W → Q W) : Stab F w Q := fun W hW => hPQ W (h W hW)
theorem Stab.and (h : Stab F w P) (h' : Stab F w Q) : Stab F w (fun W => P W ∧ Q W) := fun W hW => ⟨h W hW, h' W hW⟩
theorem Stab.mono (h : Stab F w P) (hF : ∀ k, F' k → F k ∨ w.heap.size ≤ k) : Stab F' w P := fun W hW => h W (hW.mono fun k hk => hk.elim (hF k) Or.inr)
theorem Stab.step (h : Stab F w P) (ho : Only (fun k => F k ∨ w.heap.size ≤ k) w w') (hF : ∀ k, F' k → F k ∨ w.heap.size ≤ k) : Stab F' w' P := fun W hW =>
  h W (ho.trans (hW.mono fun k hk => hk.elim (hF k) fun hk => .inr (Nat.le_trans ho.size hk)))
theorem Stab.later (h : Stab F w P) (ho : Only (w.heap.size ≤ ·) w w') : Stab F w' P := h.step (ho.mono fun _ hk => .inr hk) fun _ hk => .inl hk
end
/-- A row, its cells named. -/
def RwC {α : Type} (E : El α) (w : World) (v : Value) (l : List α) (C : List Value) : Prop := Den (E.At w) l C ∧ RawV E.z w v l.length C
def SRw {α : Type} (E : El α) (F : Nat → Prop) (w : World) (v : Value) (l : List α) : Prop := ∃ C, Stab F w (fun W => RwC E W v l C)
section
variable {α : Type} {E : El α} {F F' : Nat → Prop} {w w' : World} {v : Value} {l : List α} {A : Option Addr} {n c : Nat}
theorem RwC.rw_ {C : List Value} (h : RwC E w v l C) : Rw E w v l := RawV.rw_ rfl h.1 h.2
theorem SRw.rw_ (h : SRw E F w v l) : Stab F w (fun W => Rw E W v l) := by
  obtain ⟨C, h⟩ := h
  exact h.imp fun W hW => hW.rw_
theorem Rw.srw (h : Rw E w (.slice A n c) l) : SRw E (fun _ => False) w (.slice A n c) l := by
  obtain rfl := h.len
  obtain ⟨C, hd, hr⟩ := h.raw
  exact ⟨C, Stab.later_of fun W hW => ⟨hd.mono fun x cs hx => E.later hx hW, hr.later hW⟩⟩
theorem SRw.step (h : SRw E F w v l) (ho : Only (fun k => F k ∨ w.heap.size ≤ k) w w') (hF : ∀ k, F' k → F k ∨ w.heap.size ≤ k) : SRw E F' w' v l := by
  obtain ⟨C, h⟩ := h
  exact ⟨C, h.step ho hF⟩
theorem SRw.later (h : SRw E F w v l) (ho : Only (w.heap.size ≤ ·) w w') : SRw E F w' v l := by
  obtain ⟨C, h⟩ := h
  exact ⟨C, h.later ho⟩
theorem SRw.len (h : SRw E F w (.slice A n c) l) : n = l.length := h.rw_.now.len
theorem SRw.cut (h : SRw E F w (.slice A n c) l) {k : Nat} (hk : k ≤ n) : SRw E F w (.slice A k k) (l.take k) := by
  obtain rfl := h.len
  obtain ⟨C, h⟩ := h
  refine ⟨C.take (k * E.z), h.imp fun W hW => ⟨hW.1.take (fun _ _ => E.len) k, ?_⟩⟩
  have := hW.2.cut hk
  rwa [show (l.take k).length = k by simp; omega]
theorem SRw.drop (h : SRw E F w (.slice A n c) l) {k : Nat} (hk : k ≤ n) : SRw E F w (.slice (if c = k then A else A.map (·.add (k * E.z))) (n - k) (c - k)) (l.drop k) := by
  obtain rfl := h.len
  obtain ⟨C, h⟩ := h
  refine ⟨C.drop (k * E.z), h.imp fun W hW => ⟨hW.1.drop (fun _ _ => E.len) k, ?_⟩⟩
  have := hW.2.drop hk
  rwa [show (l.drop k).length = l.length - k by simp]
theorem SRw.nil_ (F : Nat → Prop) (w : World) : SRw E F w (.slice none 0 0) ([] : List α) := ⟨[], fun W _ => ⟨rfl, none, 0, rfl, by simp, Raw.nil_ _ _, fun _ => rfl, Nat.le_refl _, by omega, by simp⟩⟩
end
/-- The three parts of a node's value, for good. -/
def SNod (F : Nat → Prop) (w : World) (x : Nd) (f : Bool) (v u : Value) : Prop := f = x.leaf ∧ SRw itE F w v x.its ∧ SRw kdE F w u x.kds
section
variable {F F' : Nat → Prop} {w w' : World} {x : Nd} {f : Bool} {v u : Value}
theorem SNod.nod (h : SNod F w x f v u) : Stab F w (fun W => Nod W x f v u) := fun W hW => ⟨h.1, h.2.1.rw_ W hW, h.2.2.rw_ W hW⟩
theorem SNod.step (h : SNod F w x f v u) (ho : Only (fun k => F k ∨ w.heap.size ≤ k) w w') (hF : ∀ k, F' k → F k ∨ w.heap.size ≤ k) : SNod F' w' x f v u := ⟨h.1, h.2.1.step ho hF, h.2.2.step ho hF⟩
theorem SNod.later (h : SNod F w x f v u) (ho : Only (w.heap.size ≤ ·) w w') : SNod F w' x f v u := ⟨h.1, h.2.1.later ho, h.2.2.later ho⟩
theorem Nod.snod {A B : Option Addr} {n c m d : Nat} (h : Nod w x f (.slice A n c) (.slice B m d)) : SNod (fun _ => False) w x f (.slice A n c) (.slice B m d) := ⟨h.1, h.2.1.srw, h.2.2.srw⟩
end

theorem Src.stab {w : World} {v : Value} {xs : Bytes} (h : Src w v xs) : Stab (fun _ => False) w (fun W => Src W v xs) := Stab.later_of fun W hW => h.later hW
/-- Bytes of the call's own stay. -/
theorem New.stab {w w' : World} {v : Value} {xs : Bytes} {F : Nat → Prop} (h : New w' w.heap.size v xs) (hF : ∀ k, F k → k < w.heap.size) : Stab F w' (fun W => Src W v xs) := fun W hW =>
  (h.keep hW fun k h1 h2 hk => by
    rcases hk with hk | hk
    · have := hF k hk
      omega
    · omega).src
theorem New.nil_ (w : World) (b : Nat) : New w b (.slice none 0 0) [] := ⟨none, 0, rfl, Txt.nil_ _ _, fun _ => rfl, Nat.le_refl _, by omega, fun ad e => by cases e⟩

/-- A row of the call's own stays. -/
theorem raw_stab {w w' : World} {F : Nat → Prop} {z n : Nat} {t : TypeId} {v : Value} {C : List Value} (h : w'.ownsRow w.heap.size t z v n C) (h1 : ∀ u ∈ C, u.oneCell' = true) (hF : ∀ k, F k → k < w.heap.size) : Stab F w' (fun W => RawV z W v n C) := fun W hW => by
  obtain ⟨A, c, rfl, hr, hA, hc, hm, hb⟩ := raw_of_own h
  refine ⟨A, c, rfl, h.1, hr.on hW (fun b off _ e hk => ?_), hA, hc, hm, h1⟩
  obtain ⟨g, e2, _, h3, h4⟩ := hb _ e
  cases e2
  rcases hk with hk | hk
  · have := hF _ hk
    omega
  · omega

theorem own_form {w : World} {B z n : Nat} {t : TypeId} {v : Value} {C : List Value} (h : w.ownsRow B t z v n C) (hn : 0 < n) : ∃ g p, v = .slice (some ⟨g, 0, none⟩) n p ∧ B ≤ g := by
  rcases h.2 with ⟨_, h0⟩ | ⟨g, cap, cur, e, hb, _⟩
  · omega
  · exact ⟨g, cap, e, hb⟩
theorem own_at0 {w : World} {B z n g p : Nat} {t : TypeId} {C : List Value} (h : w.ownsRow B t z (.slice (some ⟨g, 0, none⟩) n p) n C) (hn : 0 < n) (hz : 0 < z := by decide) : (∃ u, w.cell? ⟨g, 0, none⟩ = some u) ∧ w.frozen? ⟨g, 0, none⟩ = false := by
  have hl := h.1
  have hp : 0 < n * z := Nat.mul_pos hn hz
  refine ⟨⟨C[0], ?_⟩, h.frozenAt _⟩
  rw [h.cellAt _ hp]
  exact List.getElem?_eq_getElem (by omega)
/-- A row of kids, for good. -/
def KidsFor (F : Nat → Prop) (w : World) (l : List Kd) (e : Ending) (w' : World) : Prop := ∃ A n c, e = .returned (.slice A n c) ∧ SRw kdE F w' (.slice A n c) l ∧ Only (w.heap.size ≤ ·) w w'

theorem kd_cons {W : World} {kv : Value} {x : Kd} {l : List Kd} {ks : Bytes} {C : List Value} (h : Den (kdE.At W) (x :: l) C) (hk : Src W kv ks) : Den (kdE.At W) (headK ks (x :: l)) (C.set 0 kv) := by
  obtain ⟨cs, D, rfl, ⟨A, c, rfl, _⟩, h2⟩ := h
  obtain ⟨P, p, rfl, h3⟩ := hk
  exact ⟨[.slice P ks.length p, .int .i64 x.2], D, rfl, ⟨P, p, rfl, P, p, rfl, h3⟩, h2⟩

end Go.Proofs.Ytnjhpjpeeehagaa
