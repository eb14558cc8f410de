/-
  What stays true whatever is done to some blocks, and to new ones; headed.
-/
import Derived.Test.YtjbbljnfgpggkaaDoorSwp
import Derived.Test.YtjbbljnfgpggkaaDoorPln
import Derived.Laws.OwnMore
set_option linter.unusedVariables false
namespace Go.Proofs.YtjbbljnfgpggkaaDoor
open Go.RowKit

/-- It holds now, and whatever is done to blocks of which F speaks, and to new ones. -/
def Stab (F : Nat → Prop) (w : World) (P : World → Prop) : Prop := ∀ W, Only (fun k => F k ∨ w.heap.size ≤ k) w W → P W
section
variable {F F' : Nat → Prop} {w w' : World} {P Q : World → Prop}
theorem Stab.now (h : Stab F w P) : P w := h w (Only.refl _ _)
theorem Stab.later_of (hP : ∀ W, Only (w.heap.size ≤ ·) w W → P W) : Stab (fun _ => False) w P := fun W hW => hP W (hW.mono fun k hk => by simpa using hk)
theorem Stab.imp (h : Stab F w P) (hPQ : ∀ W, P W → Q W) : Stab F w Q := fun W hW => hPQ W (h W hW)
theorem Stab.and (h : Stab F w P) (h' : Stab F w Q) : Stab F w (fun W => P W ∧ Q W) := fun W hW => ⟨h W hW, h' W hW⟩
theorem Stab.mono (h : Stab F w P) (hF : ∀ k, F' k → F k ∨ w.heap.size ≤ k) : Stab F' w P := fun W hW => h W (hW.mono fun k hk => hk.elim (hF k) Or.inr)
theorem Stab.step (h : Stab F w P) (ho : Only (fun k => F k ∨ w.heap.size ≤ k) w w') (hF : ∀ k, F' k → F k ∨ w.heap.size ≤ k) : Stab F' w' P := fun W hW =>
  h W (ho.trans (hW.mono fun k hk => hk.elim (hF k) fun hk => .inr (Nat.le_trans ho.size hk)))
theorem Stab.later (h : Stab F w P) (ho : Only (w.heap.size ≤ ·) w w') : Stab F w' P := h.step (ho.mono fun _ hk => .inr hk) fun _ hk => .inl hk
end
/-- A row, its cells named. -/
def RwC {α : Type} (E : El α) (w : World) (v : Value) (l : List α) (C : List Value) : Prop := Den (E.At w) l C ∧ RawV E.z w v l.length C
def SRw {α : Type} (E : El α) (F : Nat → Prop) (w : World) (v : Value) (l : List α) : Prop := ∃ C, Stab F w (fun W => RwC E W v l C)
section
variable {α : Type} {E : El α} {F F' : Nat → Prop} {w w' : World} {v : Value} {l : List α} {A : Option Addr} {n c : Nat}
theorem RwC.rw_ {C : List Value} (h : RwC E w v l C) : Rw E w v l := RawV.rw_ rfl h.1 h.2
theorem SRw.rw_ (h : SRw E F w v l) : Stab F w (fun W => Rw E W v l) := by
  obtain ⟨C, h⟩ := h
  exact h.imp fun W hW => hW.rw_
theorem Rw.srw (h : Rw E w (.slice A n c) l) : SRw E (fun _ => False) w (.slice A n c) l := by
  obtain rfl := h.len
  obtain ⟨C, hd, hr⟩ := h.raw
  exact ⟨C, Stab.later_of fun W hW => ⟨hd.mono fun x cs hx => E.later hx hW, hr.later hW⟩⟩
theorem SRw.step (h : SRw E F w v l) (ho : Only (fun k => F k ∨ w.heap.size ≤ k) w w') (hF : ∀ k, F' k → F k ∨ w.heap.size ≤ k) : SRw E F' w' v l := by
  obtain ⟨C, h⟩ := h
  exact ⟨C, h.step ho hF⟩
theorem SRw.later (h : SRw E F w v l) (ho : Only (w.heap.size ≤ ·) w w') : SRw E F w' v l := by
  obtain ⟨C, h⟩ := h
  exact ⟨C, h.later ho⟩
theorem SRw.len (h : SRw E F w (.slice A n c) l) : n = l.length := h.rw_.now.len
theorem SRw.cut (h : SRw E F w (.slice A n c) l) {k : Nat} (hk : k ≤ n) : SRw E F w (.slice A k k) (l.take k) := by
  obtain rfl := h.len
  obtain ⟨C, h⟩ := h
  refine ⟨C.take (k * E.z), h.imp fun W hW => ⟨hW.1.take (fun _ _ => E.len) k, ?_⟩⟩
  have := hW.2.cut hk
  rwa [show (l.take k).length = k by simp; omega]
theorem SRw.drop (h : SRw E F w (.slice A n c) l) {k : Nat} (hk : k ≤ n) : SRw E F w (.slice (if c = k then A else A.map (·.add (k * E.z))) (n - k) (c - k)) (l.drop k) := by
  obtain rfl := h.len
  obtain ⟨C, h⟩ := h
  refine ⟨C.drop (k * E.z), h.imp fun W hW => ⟨hW.1.drop (fun _ _ => E.len) k, ?_⟩⟩
  have := hW.2.drop hk
  rwa [show (l.drop k).length = l.length - k by simp]
theorem SRw.nil_ (F : Nat → Prop) (w : World) : SRw E F w (.slice none 0 0) ([] : List α) := ⟨[], fun W _ => ⟨rfl, none, 0, rfl, by simp, Raw.nil_ _ _, fun _ => rfl, Nat.le_refl _, by omega, by simp⟩⟩
end
/-- The three parts of a node's value, for good. -/
def SNod (F : Nat → Prop) (w : World) (x : Nd) (f : Bool) (v u : Value) : Prop := f = x.leaf ∧ SRw itE F w v x.its ∧ SRw kdE F w u x.kds
section
variable {F F' : Nat → Prop} {w w' : World} {x : Nd} {f : Bool} {v u : Value}
theorem SNod.nod (h : SNod F w x f v u) : Stab F w (fun W => Nod W x f v u) := fun W hW => ⟨h.1, h.2.1.rw_ W hW, h.2.2.rw_ W hW⟩
theorem SNod.step (h : SNod F w x f v u) (ho : Only (fun k => F k ∨ w.heap.size ≤ k) w w') (hF : ∀ k, F' k → F k ∨ w.heap.size ≤ k) : SNod F' w' x f v u := ⟨h.1, h.2.1.step ho hF, h.2.2.step ho hF⟩
theorem SNod.later (h : SNod F w x f v u) (ho : Only (w.heap.size ≤ ·) w w') : SNod F w' x f v u := ⟨h.1, h.2.1.later ho, h.2.2.later ho⟩
theorem Nod.snod {A B : Option Addr} {n c m d : Nat} (h : Nod w x f (.slice A n c) (.slice B m d)) : SNod (fun _ => False) w x f (.slice A n c) (.slice B m d) := ⟨h.1, h.2.1.srw, h.2.2.srw⟩
end

theorem Src.stab {w : World} {v : Value} {xs : Bytes} (h : Src w v xs) : Stab (fun _ => False) w (fun W => Src W v xs) := Stab.later_of fun W hW => h.later hW
/-- Bytes of the call's own stay. -/
theorem New.stab {w w' : World} {v : Value} {xs : Bytes} {F : Nat → Prop} (h : New w' w.heap.size v xs) (hF : ∀ k, F k → k < w.heap.size) : Stab F w' (fun W => Src W v xs) := fun W hW =>
  (h.keep hW fun k h1 h2 hk => by
    rcases hk with hk | hk
    · have := hF k hk
      omega
    · omega).src
theorem New.nil_ (w : World) (b : Nat) : New w b (.slice none 0 0) [] := ⟨none, 0, rfl, Txt.nil_ _ _, fun _ => rfl, Nat.le_refl _, by omega, fun ad e => by cases e⟩

/-- A row of the call's own stays. -/
theorem raw_stab {w w' : World} {F : Nat → Prop} {z n : Nat} {t : TypeId} {v : Value} {C : List Value} (h : w'.ownsRow w.heap.size t z v n C) (h1 : ∀ u ∈ C, u.oneCell' = true) (hF : ∀ k, F k → k < w.heap.size) : Stab F w' (fun W => RawV z W v n C) := fun W hW => by
  obtain ⟨A, c, rfl, hr, hA, hc, hm, hb⟩ := raw_of_own h
  refine ⟨A, c, rfl, h.1, hr.on hW (fun b off _ e hk => ?_), hA, hc, hm, h1⟩
  obtain ⟨g, e2, _, h3, h4⟩ := hb _ e
  cases e2
  rcases hk with hk | hk
  · have := hF _ hk
    omega
  · omega

theorem own_form {w : World} {B z n : Nat} {t : TypeId} {v : Value} {C : List Value} (h : w.ownsRow B t z v n C) (hn : 0 < n) : ∃ g p, v = .slice (some ⟨g, 0, none⟩) n p ∧ B ≤ g := by
  rcases h.2 with ⟨_, h0⟩ | ⟨g, cap, cur, e, hb, _⟩
  · omega
  · exact ⟨g, cap, e, hb⟩
theorem own_at0 {w : World} {B z n g p : Nat} {t : TypeId} {C : List Value} (h : w.ownsRow B t z (.slice (some ⟨g, 0, none⟩) n p) n C) (hn : 0 < n) (hz : 0 < z := by decide) : (∃ u, w.cell? ⟨g, 0, none⟩ = some u) ∧ w.frozen? ⟨g, 0, none⟩ = false := by
  have hl := h.1
  have hp : 0 < n * z := Nat.mul_pos hn hz
  refine ⟨⟨C[0], ?_⟩, h.frozenAt _⟩
  rw [h.cellAt _ hp]
  exact List.getElem?_eq_getElem (by omega)
/-- A row of kids, for good. -/
def KidsFor (F : Nat → Prop) (w : World) (l : List Kd) (e : Ending) (w' : World) : Prop := ∃ A n c, e = .returned (.slice A n c) ∧ SRw kdE F w' (.slice A n c) l ∧ Only (w.heap.size ≤ ·) w w'

theorem kd_cons {W : World} {kv : Value} {x : Kd} {l : List Kd} {ks : Bytes} {C : List Value} (h : Den (kdE.At W) (x :: l) C) (hk : Src W kv ks) : Den (kdE.At W) (headK ks (x :: l)) (C.set 0 kv) := by
  obtain ⟨cs, D, rfl, ⟨A, c, rfl, _⟩, h2⟩ := h
  obtain ⟨P, p, rfl, h3⟩ := hk
  exact ⟨[.slice P ks.length p, .int .i64 x.2], D, rfl, ⟨P, p, rfl, P, p, rfl, h3⟩, h2⟩

set_option maxRecDepth 100000 in
set_option maxHeartbeats 3200000 in
theorem headed_c (w : World) (F : Nat → Prop) (A : Option Addr) (n c : Nat) (u : Value) (l : List Kd) (ks : Bytes) (hF : ∀ k, F k → k < w.heap.size) (h : SRw kdE F w (.slice A n c) l) (hk : Src w u ks) (hn : n ≤ 100000) (hks : ks.length ≤ 100000) :
    Calls Tryd.prog 41 #[.slice A n c, u] w (KidsFor F w (headK ks l)) := by
  have hnl := h.len
  obtain ⟨C, hs⟩ := h
  have HST := Lib.hid hs
  have HK := Lib.hid hk
  have HF := Lib.hid hF
  have HR : Hid (Calls Tryd.prog 69 #[.slice A n c] w (OwnsR w 58 2 n C)) := CloneK_r w _ n C (by have h' := hs.now.2; rw [← hnl] at h'; exact h') (by omega)
  have HKC : Hid (∀ W, Only (w.heap.size ≤ ·) w W → Calls Tryd.prog 50 #[u] W fun e w' => ∃ k, e = .returned k ∧ w'.ownsRow W.heap.size 5 1 k ks.length (cb ks) ∧ Only (W.heap.size ≤ ·) W w') := fun W hW => Clone_c W u ks (hk.later hW) (by omega)
  clear hs hk hF
  rcases Nat.eq_zero_or_pos n with h0 | h0
  · obtain rfl : l = [] := List.eq_nil_of_length_eq_zero (by omega)
    have j0 : ¬ (0 : Int) < (n : Int) := by omega
    have HNL := Lib.hid hnl
    clear hnl h0
    go_enter Tryd.func41, Tryd.ntmps41
    go_wp2_with (go_at_call 69; (with_reducible refine HR.out.mono ?_); rintro e w1 ⟨v, rfl, hv, ho⟩; (obtain ⟨P, p, rfl, _⟩ := raw_of_own hv); have HV := Lib.hid hv; have HO := Lib.hid ho; clear hv ho)
    go_ret
    refine ⟨_, _, _, rfl, ?_, HO.out⟩
    have h1 := HST.out.now.2
    obtain ⟨_, _, _, _, _, _, _, _, h7⟩ := h1
    exact ⟨C, fun W hW => ⟨(HST.out W ((HO.out.mono fun _ h => .inr h).trans (hW.mono fun k hk => hk.elim .inl fun hk => .inr (Nat.le_trans HO.out.size hk)))).1, by have := raw_stab HV.out h7 HF.out W hW; rw [HNL.out] at this; rw [HNL.out]; exact this⟩⟩
  · obtain ⟨x, l, rfl⟩ : ∃ x m, l = x :: m := by
      cases l with
      | nil => simp at hnl; omega
      | cons x m => exact ⟨x, m, rfl⟩
    have j0 : (0 : Int) < (n : Int) := by omega
    have HNL := Lib.hid hnl
    clear hnl
    go_enter Tryd.func41, Tryd.ntmps41
    go_wp2_with (first
      | (go_at_call 69; (with_reducible refine HR.out.mono ?_); rintro e w1 ⟨v, rfl, hv, ho⟩; (obtain ⟨g, p, rfl, hg⟩ : ∃ g p, v = .slice (some ⟨g, 0, none⟩) n p ∧ w.heap.size ≤ g := own_form hv h0); have HV := Lib.hid hv; have HO := Lib.hid ho; clear hv ho)
      | (go_at_call 50; (with_reducible refine (HKC.out _ HO.out).mono ?_); rintro e w2 ⟨kv, rfl, hv, ho⟩; (obtain ⟨P, q, rfl, hnew⟩ := New.form hv); have HN := Lib.hid hnew; have HV2 := Lib.hid (own_later HV.out ho); have HC0 := Lib.hid (own_at0 HV2.out h0); (obtain ⟨⟨y0, hc0⟩, hf0⟩ := HC0.out); have HO2 := Lib.hid (on_new HO.out ho); have HO12 := Lib.hid ho; clear hv hnew ho))
    have hset := (HV2.out.stored 0 (.slice P ks.length q)).1
    have hgl := (World.ownsRow.lt HV.out g rfl).2
    have hb := HST.out.now.2
    obtain ⟨_, _, _, hcl, _, _, _, _, h7⟩ := hb
    have hO : Only (w.heap.size ≤ ·) w (w2.setCell ⟨g, 0, none⟩ (.slice P ks.length q)) := HO2.out.setCell (p := ⟨g, 0, none⟩) hg _
    have hN := HN.out.keep (F := (· = g)) ((Only.refl (· = g) w2).setCell (p := ⟨g, 0, none⟩) rfl (.slice P ks.length q)) fun k hk _ e => by omega
    go_ret
    refine ⟨_, _, _, rfl, ⟨C.set 0 (.slice P ks.length q), fun W hW => ⟨?_, ?_⟩⟩, hO⟩
    · have hW' : Only (fun k => F k ∨ w.heap.size ≤ k) w W := (hO.mono fun _ h => .inr h).trans (hW.mono fun k hk => hk.elim .inl fun hk => .inr (Nat.le_trans hO.size hk))
      exact kd_cons (HST.out W hW').1 (New.stab (w := w1) hN (fun k hk => Nat.lt_of_lt_of_le (HF.out k hk) HO.out.size) W hW)
    · rw [headK_length, ← HNL.out]
      refine raw_stab hset (fun y hy => ?_) HF.out W hW
      rcases List.mem_or_eq_of_mem_set hy with hy | rfl
      · exact h7 y hy
      · rfl
end Go.Proofs.YtjbbljnfgpggkaaDoor
