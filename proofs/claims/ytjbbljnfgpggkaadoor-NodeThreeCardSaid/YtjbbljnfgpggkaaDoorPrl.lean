/-
  What the closure of Parts leaves behind it: plain lemmas; the way on which a piece is laid.
-/
import Derived.Test.YtjbbljnfgpggkaaDoorCut
import Derived.Test.YtjbbljnfgpggkaaDoorNrm
import Derived.Maps.AppendAt
set_option linter.unusedVariables false
namespace Go.Proofs.YtjbbljnfgpggkaaDoor
open Go.RowKit

/-- What a closure of Parts may change of what there is: the row's variable, and the row's block. -/
def Fz (bp : Nat) (v : Value) (k : Nat) : Prop := k = bp ∨ v.ownBlock = some k
def Added (w : World) (bp B0 : Nat) (v : Value) (L : List Pt) (g : Int) (ks : Bytes) (x : Nd) (e : Ending) (w' : World) : Prop :=
  e = .returned (.tuple #[]) ∧ ∃ l v' C', Cuts g ks x l ∧ Blk w' bp 36 [v'] ∧ w'.ownsRow B0 41 4 v' (L ++ l).length C' ∧ Stab (Fz bp v') w' (fun W => Den (ptE.At W) (L ++ l) C') ∧
    Only (fun k => Fz bp v k ∨ w.heap.size ≤ k) w w' ∧ (∀ k, v'.ownBlock = some k → v.ownBlock = some k ∨ w.heap.size ≤ k)
theorem Added.later {w w1 w' : World} {bp B0 : Nat} {v : Value} {L : List Pt} {g : Int} {ks : Bytes} {x : Nd} {e : Ending} (h : Added w1 bp B0 v L g ks x e w') (ho : Only (w.heap.size ≤ ·) w w1) : Added w bp B0 v L g ks x e w' := by
  obtain ⟨he, l, v', C', h1, h2, h3, h4, h5, h6⟩ := h
  exact ⟨he, l, v', C', h1, h2, h3, h4, (ho.mono fun _ h => .inr h).trans (h5.mono fun k hk => hk.elim .inl fun hk => .inr (Nat.le_trans ho.size hk)), fun k hk => (h6 k hk).elim .inl fun hk => .inr (Nat.le_trans ho.size hk)⟩
theorem Blk.at0 {w : World} {g : Nat} {t : TypeId} {v : Value} {r : List Value} (h : Blk w g t (v :: r)) : w.cell? ⟨g, 0, none⟩ = some v := h.cell 0
theorem Only.grownBy {w w' : World} {b : Nat} (h : Only (· = b) w w') : w.grownBy w' (some b) := ⟨h.os, h.tape, h.output, h.size, fun k _ hk => h.block k (fun e => hk (by rw [e]))⟩

theorem cut_n (g : Int) (w : World) (F : Nat → Prop) (P A B : Option Addr) (f : Bool) (q p n c m d k : Nat) (x : Nd) (hF : ∀ k, F k → k < w.heap.size) (h : SNod F w x f (.slice A n c) (.slice B m d)) (hs : Small x) (hk : IsMid (rms g x) k) :
    Calls Tryd.prog 32 #[.agg #[.slice P q p, .bool f, .slice A n c, .slice B m d], .int .i64 k] w (CutTo F w x (.slice P q p) k) := by
  have hf := h.1
  have h2 := hk.2.1
  rw [rms_length] at h2
  cases f
  · exact cut_entries_kids w F P A B q p n c m d k x hF hf.symm h hs hk.1 h2
  · exact cut_entries_leaf w F P A B q p n c m d k x hF hf.symm h hs hk.1 h2

theorem entries_any (w : World) (f : Bool) (A B : Option Addr) (n c m d : Nat) (x : Nd) (hN : Nod w x f (.slice A n c) (.slice B m d)) :
    Calls Tryd.prog 31 #[.agg #[.bool f, .slice A n c, .slice B m d]] w fun e w' => ∃ f1 f2 f3 x1 y1 x2 y2 x3 y3, e = .returned (.agg #[.int .i64 (many x : Nat), .func f1 x1 y1, .func f2 x2 y2, .func f3 x3 y3]) ∧ Only (w.heap.size ≤ ·) w w' := by
  have hf := hN.1
  cases f
  · rw [many_kids hf.symm, ← hN.2.2.len]
    exact (entries_kids w A B n c m d).mono fun e w' ⟨h1, h2⟩ => ⟨_, _, _, _, _, _, _, _, _, h1, h2⟩
  · rw [many_leaf hf.symm, ← hN.2.1.len]
    exact (entries_leaf w A B n c m d).mono fun e w' ⟨h1, h2⟩ => ⟨_, _, _, _, _, _, _, _, _, h1, h2⟩

theorem added_one {w w1 w2 : World} {B0 bp k p : Nat} {v v' vi vk : Value} {L : List Pt} {C : List Value} {x : Nd} {ks : Bytes} {P : Option Addr} {f : Bool} {g : Int}
    (hO : Only (w.heap.size ≤ ·) w w1) (hbp : Blk w bp 36 [v]) (hB : bp < B0) (hB2 : B0 ≤ w.heap.size) (hown : w.ownsRow B0 41 4 v k C) (hk : k = L.length)
    (hden : Stab (Fz bp v) w (fun W => Den (ptE.At W) L C)) (hnod : SNod (Fz bp v) w x f vi vk) (hkey : Stab (Fz bp v) w (fun W => Src W (.slice P ks.length p) ks))
    (hg : w1.grownBy w2 v.ownBlock) (ho2 : w2.ownsRow B0 41 4 v' (k + 1) (C ++ [.slice P ks.length p, .bool f, vi, vk])) (hat : v'.ownBlock = v.ownBlock ∨ v'.ownBlock = some w1.heap.size) (hc : nfit g x = true ∨ many x < 2) :
    Added w bp B0 v L g ks x (.returned (.tuple #[])) (w2.setCell ⟨bp, 0, none⟩ v') := by
  have hO2 : Only (fun k => Fz bp v k ∨ w.heap.size ≤ k) w w2 := Only.grown (hO.mono fun _ h => .inr h) hg (fun k hk => .inr hk) (fun k hk => .inl (.inr hk))
  have hO3 : Only (fun k => Fz bp v k ∨ w.heap.size ≤ k) w (w2.setCell ⟨bp, 0, none⟩ v') := hO2.setCell (p := ⟨bp, 0, none⟩) (.inl (.inl rfl)) v'
  have hat2 : ∀ k, v'.ownBlock = some k → v.ownBlock = some k ∨ w.heap.size ≤ k := fun k hk => by
    rcases hat with h | h
    · exact .inl (by rw [← h]; exact hk)
    · rw [h] at hk
      cases hk
      exact .inr hO.size
  have hbne : some bp ≠ v.ownBlock := fun e => by
    have := (World.ownsRow.lt hown bp e.symm).1
    omega
  have hb2 : Blk w2 bp 36 [v] := (hg.block bp (by have := hbp.lt; have := hO.size; omega) hbne).trans (hbp.later hO)
  refine ⟨rfl, [(ks, x)], v', C ++ [.slice P ks.length p, .bool f, vi, vk], Cuts.one _ _ hc, Blk.set_ hb2 0 v', ?_, ?_, hO3, hat2⟩
  · have h := World.ownsRow.kept ho2 (Only.grownBy ((Only.refl (· = bp) w2).setCell (p := ⟨bp, 0, none⟩) rfl v')) (.inr fun e => by have := (World.ownsRow.lt ho2 bp e).1; omega)
    rwa [show (L ++ [(ks, x)]).length = k + 1 by simp [hk]]
  · intro W hW
    have hW0 : Only (fun k => Fz bp v k ∨ w.heap.size ≤ k) w W := hO3.trans (hW.mono fun k hk => by
      rcases hk with (hk | hk) | hk
      · exact .inl (.inl hk)
      · exact (hat2 k hk).elim (fun h => .inl (.inr h)) .inr
      · exact .inr (Nat.le_trans hO3.size hk))
    exact (hden W hW0).append (Den.single ⟨P, p, f, vi, vk, rfl, hkey W hW0, hnod.nod W hW0⟩)

/-- Two halves, one behind the other. -/
theorem added_two {w w1 w2 w3 : World} {B0 bp k : Nat} {v v1 : Value} {L l1 : List Pt} {x : Nd} {ks : Bytes} {g : Int} {e : Ending}
    (hO : Only (w.heap.size ≤ ·) w w1) (hf : nfit g x = false) (h2 : 2 ≤ many x) (hm : IsMid (rms g x) k) (hc : Cuts g ks (fstN k x) l1)
    (hO2 : Only (fun k => Fz bp v k ∨ w1.heap.size ≤ k) w1 w2) (hat : ∀ k, v1.ownBlock = some k → v.ownBlock = some k ∨ w1.heap.size ≤ k)
    (h : Added w2 bp B0 v1 (L ++ l1) g (keyN k x) (sndN k x) e w3) : Added w bp B0 v L g ks x e w3 := by
  obtain ⟨he, l, v', C', g1, g2, g3, g4, g5, g6⟩ := h
  have hs := hO.size
  have hs2 := hO2.size
  refine ⟨he, l1 ++ l, v', C', Cuts.cut ks x k l1 l hf h2 hm hc g1, g2, by rw [← List.append_assoc]; exact g3, by rw [← List.append_assoc]; exact g4, ?_, ?_⟩
  · refine (hO.mono fun _ h => .inr h).trans ((hO2.mono fun k hk => hk.elim .inl fun hk => .inr (Nat.le_trans hs hk)).trans (g5.mono fun k hk => ?_))
    rcases hk with (hk | hk) | hk
    · exact .inl (.inl hk)
    · exact (hat k hk).elim (fun h => .inl (.inr h)) fun h => .inr (Nat.le_trans hs h)
    · exact .inr (by omega)
  · intro k hk
    rcases g6 k hk with h | h
    · exact (hat k h).elim .inl fun h => .inr (Nat.le_trans hs h)
    · exact .inr (by omega)
/-- Both halves lie in their variables. -/
def Halves (w2 : World) (F : Nat → Prop) (g : Int) (x : Nd) (kv : Value) (b5 b6 : Nat) (W : World) : Prop :=
  ∃ kk A1 n1 c1 B1 m1 d1 P2 p2 A2 n2 c2 B2 m2 d2, IsMid (rms g x) kk ∧ Blk W b5 41 [kv, .bool x.leaf, .slice A1 n1 c1, .slice B1 m1 d1] ∧ Blk W b6 41 [.slice P2 (keyN kk x).length p2, .bool x.leaf, .slice A2 n2 c2, .slice B2 m2 d2] ∧
    SNod F W (fstN kk x) x.leaf (.slice A1 n1 c1) (.slice B1 m1 d1) ∧ Stab F W (fun W => Src W (.slice P2 (keyN kk x).length p2) (keyN kk x)) ∧ SNod F W (sndN kk x) x.leaf (.slice A2 n2 c2) (.slice B2 m2 d2) ∧ Only (w2.heap.size ≤ ·) w2 W ∧ w2.heap.size ≤ b5 ∧ w2.heap.size ≤ b6
theorem halves_mk {w2 v4 W : World} {F F' : Nat → Prop} {g : Int} {x : Nd} {kv a0 a1 a2 a3 e0 e1 e2 e3 : Value} {b5 b6 kk : Nat} {A1 B1 P2 A2 B2 : Option Addr} {n1 c1 m1 d1 p2 n2 c2 m2 d2 : Nat}
    (hm : IsMid (rms g x) kk) (h5 : Blk W b5 41 [a0, a1, a2, a3]) (h6 : Blk W b6 41 [e0, e1, e2, e3]) (hne : b5 ≠ b6) (hO : Only (w2.heap.size ≤ ·) w2 W) (hv : Only (v4.heap.size ≤ ·) v4 W)
    (g5 : w2.heap.size ≤ b5) (g6 : w2.heap.size ≤ b6) (f5 : F' b5 ∨ v4.heap.size ≤ b5) (f6 : F' b6 ∨ v4.heap.size ≤ b6) (hF : ∀ k, F k → F' k)
    (s1 : SNod F' v4 (fstN kk x) x.leaf (.slice A1 n1 c1) (.slice B1 m1 d1)) (s2 : Stab F' v4 (fun W => Src W (.slice P2 (keyN kk x).length p2) (keyN kk x))) (s3 : SNod F' v4 (sndN kk x) x.leaf (.slice A2 n2 c2) (.slice B2 m2 d2)) :
    Halves w2 F g x kv b5 b6 ((((((((W.setCell ⟨b5, 0, none⟩ kv).setCell ⟨b5, 1, none⟩ (.bool x.leaf)).setCell ⟨b5, 2, none⟩ (.slice A1 n1 c1)).setCell ⟨b5, 3, none⟩ (.slice B1 m1 d1)).setCell ⟨b6, 0, none⟩ (.slice P2 (keyN kk x).length p2)).setCell ⟨b6, 1, none⟩ (.bool x.leaf)).setCell ⟨b6, 2, none⟩ (.slice A2 n2 c2)).setCell ⟨b6, 3, none⟩ (.slice B2 m2 d2)) := by
  obtain ⟨W', hW⟩ : ∃ W', W' = ((((((((W.setCell ⟨b5, 0, none⟩ kv).setCell ⟨b5, 1, none⟩ (.bool x.leaf)).setCell ⟨b5, 2, none⟩ (.slice A1 n1 c1)).setCell ⟨b5, 3, none⟩ (.slice B1 m1 d1)).setCell ⟨b6, 0, none⟩ (.slice P2 (keyN kk x).length p2)).setCell ⟨b6, 1, none⟩ (.bool x.leaf)).setCell ⟨b6, 2, none⟩ (.slice A2 n2 c2)).setCell ⟨b6, 3, none⟩ (.slice B2 m2 d2)) := ⟨_, rfl⟩
  have hB5 : Blk W' b5 41 [kv, .bool x.leaf, .slice A1 n1 c1, .slice B1 m1 d1] := by rw [hW]; exact (((((((h5.set_ 0 _).set_ 1 _).set_ 2 _).set_ 3 _).far (p := ⟨b6, 0, none⟩) hne _).far (p := ⟨b6, 1, none⟩) hne _).far (p := ⟨b6, 2, none⟩) hne _).far (p := ⟨b6, 3, none⟩) hne _
  have hB6 : Blk W' b6 41 [.slice P2 (keyN kk x).length p2, .bool x.leaf, .slice A2 n2 c2, .slice B2 m2 d2] := by rw [hW]; exact (((((((h6.far (p := ⟨b5, 0, none⟩) hne.symm _).far (p := ⟨b5, 1, none⟩) hne.symm _).far (p := ⟨b5, 2, none⟩) hne.symm _).far (p := ⟨b5, 3, none⟩) hne.symm _).set_ 0 _).set_ 1 _).set_ 2 _).set_ 3 _
  have hOs : Only (fun k => k = b5 ∨ k = b6) W W' := by rw [hW]; exact ((((((((Only.refl _ _).setCell (p := ⟨b5, 0, none⟩) (.inl rfl) _).setCell (p := ⟨b5, 1, none⟩) (.inl rfl) _).setCell (p := ⟨b5, 2, none⟩) (.inl rfl) _).setCell (p := ⟨b5, 3, none⟩) (.inl rfl) _).setCell (p := ⟨b6, 0, none⟩) (.inr rfl) _).setCell (p := ⟨b6, 1, none⟩) (.inr rfl) _).setCell (p := ⟨b6, 2, none⟩) (.inr rfl) _).setCell (p := ⟨b6, 3, none⟩) (.inr rfl) _
  rw [← hW]
  clear hW
  have hO4 : Only (fun k => F' k ∨ v4.heap.size ≤ k) v4 W' := (hv.mono fun _ h => .inr h).trans (hOs.mono fun k hk => by
    rcases hk with rfl | rfl
    · exact f5
    · exact f6)
  exact ⟨kk, A1, n1, c1, B1, m1, d1, P2, p2, A2, n2, c2, B2, m2, d2, hm, hB5, hB6, s1.step hO4 fun k hk => .inl (hF k hk), s2.step hO4 fun k hk => .inl (hF k hk), s3.step hO4 fun k hk => .inl (hF k hk), hO.trans (hOs.mono fun k hk => by
    rcases hk with rfl | rfl
    · exact g5
    · exact g6), g5, g6⟩
def zP : Value := .agg #[.slice none 0 0, .bool false, .slice none 0 0, .slice none 0 0]
theorem info_P : (Tryd.prog.info? 41).map (fun i => (i.zero, i.size, i.bytes)) = some (some zP, 4, 80) := by kernel_rfl
end Go.Proofs.YtjbbljnfgpggkaaDoor
