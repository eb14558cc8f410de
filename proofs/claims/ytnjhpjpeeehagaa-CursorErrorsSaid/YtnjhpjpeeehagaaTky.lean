/-
  Rows that grow, their elements' bytes of the call's own.
-/
import Derived.Test.YtnjhpjpeeehagaaTnm
import Derived.Test.YtnjhpjpeeehagaaOf
import Derived.Test.YtnjhpjpeeehagaaStp
import Derived.RegionTactic
import Derived.BigRegion
import Derived.Maps.AppendAt
import Derived.Lib.OwnKind
set_option linter.unusedVariables false
namespace Go.Proofs.Ytnjhpjpeeehagaa
open Go.RowKit

section
variable {P : Program} {w : World}
theorem wp_append_at {o : Oper} {a : Act} {K : Act → World → Prop} {Q : Exit → Act → World → Prop} (s x : Operand) (t : TypeId)
    (ho : o.op = .call { callee := .builtin .append, args := #[s, x], argTypes := #[t, t] })
    (base : Nat) (e : TypeId) (i : TypeInfo) (z : Value) (size bytes : Nat) (ht : P.underlying t = some (.slice e)) (hi : P.info? e = some i) (hz : i.zero = some z)
    (hsize : i.size = size) (hby : i.bytes = bytes) (hzs : z.cells.size = size) (hsz : 0 < size)
    (v : Value) (n : Nat) (xs : List Value) (hs : a.eval s = v) (hown : w.ownsRow base e size v n xs)
    (ad : Addr) (m c : Nat) (news : List Value) (hx : a.eval x = .slice (some ad) m c) (hl : news.length = m * size) (hnews : ∀ j u, news[j]? = some u → w.cell? (ad.add j) = some u) (h1 : ∀ u ∈ news, u.oneCell' = true)
    (h63 : n + m ≤ maxLen) (hbytes : (n + m) * bytes ≤ 140737488355328) (hbase : base ≤ w.heap.size)
    (h : ∀ v' w', w'.ownsRow base e size v' (n + m) (xs ++ news) → w.grownBy w' v.ownBlock → (v'.ownBlock = v.ownBlock ∨ v'.ownBlock = some w.heap.size) → K (a.put o.dst v') w') : o.wp P a w K Q := by
  obtain ⟨v', w', hr, h2, h3, h4, h5⟩ := run_append_own_at (P := P) w base t o.type e i z size bytes ht hi hz hsize hby hzs hsz v n xs hown ad m c news hl hnews h1 h63 hbytes hbase
  unfold Oper.wp execOp
  simp only [ho, resolve, invoke, builtin, Sem.run_bind, Sem.run_pure, Result.andThen_ok, List.map_toArray, List.map_cons, List.map_nil, hs, hx, hr]
  exact h v' w' h2 h3 h5
theorem wpList_append_at {ops : Array Oper} {rest : List Oper} {o : Oper} {a : Act} {Q : Exit → Act → World → Prop} (hgd : o.guard = none) (s x : Operand) (t : TypeId)
    (ho : o.op = .call { callee := .builtin .append, args := #[s, x], argTypes := #[t, t] })
    (base : Nat) (e : TypeId) (i : TypeInfo) (z : Value) (size bytes : Nat) (ht : P.underlying t = some (.slice e)) (hi : P.info? e = some i) (hz : i.zero = some z)
    (hsize : i.size = size) (hby : i.bytes = bytes) (hzs : z.cells.size = size) (hsz : 0 < size)
    (v : Value) (n : Nat) (xs : List Value) (hs : a.eval s = v) (hown : w.ownsRow base e size v n xs)
    (ad : Addr) (m c : Nat) (news : List Value) (hx : a.eval x = .slice (some ad) m c) (hl : news.length = m * size) (hnews : ∀ j u, news[j]? = some u → w.cell? (ad.add j) = some u) (h1 : ∀ u ∈ news, u.oneCell' = true)
    (h63 : n + m ≤ maxLen) (hbytes : (n + m) * bytes ≤ 140737488355328) (hbase : base ≤ w.heap.size)
    (h : ∀ v' w', w'.ownsRow base e size v' (n + m) (xs ++ news) → w.grownBy w' v.ownBlock → (v'.ownBlock = v.ownBlock ∨ v'.ownBlock = some w.heap.size) → wpList P ops Q rest (a.put o.dst v') w') : wpList P ops Q (o :: rest) a w :=
  wpList_plain hgd fun K hK => wp_append_at s x t ho base e i z size bytes ht hi hz hsize hby hzs hsz v n xs hs hown ad m c news hx hl hnews h1 h63 hbytes hbase fun v' w' h2 h3 h5 => hK _ _ (h v' w' h2 h3 h5)
end
/-- Bytes of the call's own, not in the row that grows. -/
def KeyAt (b0 : Nat) (w : World) (ob : Option Nat) (v : Value) (xs : Bytes) : Prop := Src w v xs ∧ ∀ ad n c, v = .slice (some ad) n c → 0 < n → b0 ≤ ad.block ∧ ob ≠ some ad.block
theorem Src.at_block {w : World} {ad : Addr} {n c : Nat} {xs : Bytes} (h : Src w (.slice (some ad) n c) xs) (hn : 0 < n) : ad.block < w.heap.size := by
  obtain ⟨A', c', e2, ht, _⟩ := h
  simp only [Value.slice.injEq] at e2
  obtain ⟨rfl, rfl, rfl⟩ := e2
  exact ht.block hn
theorem Src.on {w w' : World} {F : Nat → Prop} {v : Value} {xs : Bytes} (h : Src w v xs) (ho : Only F w w') (hF : ∀ ad n c, v = .slice (some ad) n c → 0 < n → ¬ F ad.block) : Src w' v xs := by
  obtain ⟨A, c, rfl, ht, h1⟩ := h
  exact ⟨A, c, rfl, ht.only ho fun ad hn e => hF ad _ c (by rw [e]) hn, h1⟩
theorem KeyAt.step {b0 : Nat} {w w' : World} {F : Nat → Prop} {ob ob' : Option Nat} {v : Value} {xs : Bytes} (h : KeyAt b0 w ob v xs) (ho : Only F w w') (hF : ∀ j, b0 ≤ j → j < w.heap.size → F j → ob = some j) (hob : ob' = ob ∨ ∃ g, ob' = some g ∧ w.heap.size ≤ g) : KeyAt b0 w' ob' v xs := by
  refine ⟨h.1.on ho fun ad n c e hn hf => ?_, fun ad n c e hn => ⟨(h.2 ad n c e hn).1, ?_⟩⟩
  · have h1 := h.2 ad n c e hn
    have h2 := h.1
    rw [e] at h2
    exact h1.2 (hF _ h1.1 (h2.at_block hn) hf)
  · rcases hob with rfl | ⟨g, rfl, hg⟩
    · exact (h.2 ad n c e hn).2
    · have h2 := h.1
      rw [e] at h2
      have := h2.at_block hn
      intro e3
      cases e3
      omega
theorem New.key {w : World} {b b0 : Nat} {ob : Option Nat} {v : Value} {xs : Bytes} (h : New w b v xs) (hb : b0 ≤ b) (hob : ∀ j, ob = some j → j < b ∨ w.heap.size ≤ j) : KeyAt b0 w ob v xs := by
  refine ⟨h.src, fun ad n c e hn => ?_⟩
  have hs := h.src
  obtain ⟨A, c', e2, _, _, _, _, h6⟩ := h
  rw [e2] at e
  simp only [Value.slice.injEq] at e
  obtain ⟨rfl, rfl, rfl⟩ := e
  have h7 := h6 _ rfl
  rw [e2] at hs
  have h8 := hs.at_block hn
  refine ⟨by omega, fun e3 => ?_⟩
  rcases hob _ e3 with h9 | h9 <;> omega
theorem KeyAt.re {b0 B : Nat} {w : World} {ob ob' : Option Nat} {v : Value} {xs : Bytes} (h : KeyAt b0 w ob v xs) (hB : B ≤ b0) (hob : ∀ g, ob' = some g → g < b0 ∨ w.heap.size ≤ g) : KeyAt B w ob' v xs := by
  refine ⟨h.1, fun ad n c e hn => ⟨Nat.le_trans hB (h.2 ad n c e hn).1, fun e3 => ?_⟩⟩
  have h1 := (h.2 ad n c e hn).1
  have h2 := h.1
  rw [e] at h2
  have h3 := h2.at_block hn
  rcases hob _ e3 with h4 | h4 <;> omega
def itK (B : Nat) (ob : Option Nat) (w : World) (x : It) (cs : List Value) : Prop := ∃ P pc Q qc, cs = [.slice P x.1.length pc, .slice Q x.2.1.length qc, .int .i64 x.2.2.1, .int .i64 x.2.2.2] ∧ KeyAt B w ob (.slice P x.1.length pc) x.1 ∧ KeyAt B w ob (.slice Q x.2.1.length qc) x.2.1
def kdK (B : Nat) (ob : Option Nat) (w : World) (x : Kd) (cs : List Value) : Prop := ∃ P pc, cs = [.slice P x.1.length pc, .int .i64 x.2] ∧ KeyAt B w ob (.slice P x.1.length pc) x.1


theorem Blk.grown {w w' : World} {g : Nat} {t : TypeId} {cs : List Value} {row : Option Nat} (h : Blk w g t cs) (hg : w.grownBy w' row) (hne : row ≠ some g) : Blk w' g t cs := (hg.block g h.lt (Ne.symm hne)).trans h
theorem own_ne {w : World} {B s n g : Nat} {e t : TypeId} {v : Value} {xs cs : List Value} (h : w.ownsRow B e s v n xs) (hb : Blk w g t cs) (hne : e ≠ t) : v.ownBlock ≠ some g := fun he => by
  obtain ⟨c, fz, hc⟩ := Lib.ownsRow_kind h g he
  unfold Blk at hb
  rw [hb] at hc
  injection hc with hc
  injection hc with _ h2
  exact hne h2.symm
theorem Blk.pair {w : World} {g : Nat} {t : TypeId} {a b : Value} (h : Blk w g t [a, b]) : w.cell? ⟨g, 0, none⟩ = some a ∧ w.cell? ⟨g, 1, none⟩ = some b := ⟨h.cell 0, h.cell 1⟩
/-- A kind of element whose bytes are of the call's own. -/
structure Ek (α : Type) where
  E : El α
  K : Nat → Option Nat → World → α → List Value → Prop
  el : ∀ {B ob w x cs}, K B ob w x cs → E.At w x cs
  step : ∀ {b0 w w'} {F : Nat → Prop} {ob ob' x cs}, K b0 ob w x cs → Only F w w' → (∀ j, b0 ≤ j → j < w.heap.size → F j → ob = some j) → (ob' = ob ∨ ∃ g, ob' = some g ∧ w.heap.size ≤ g) → K b0 ob' w' x cs
  re : ∀ {b0 B w} {ob ob' x cs}, K b0 ob w x cs → B ≤ b0 → (∀ g, ob' = some g → g < b0 ∨ w.heap.size ≤ g) → K B ob' w x cs
def itEk : Ek It where
  E := itE
  K := itK
  el := fun ⟨P, p, Q, q, e, h1, h2⟩ => ⟨P, p, Q, q, e, h1.1, h2.1⟩
  step := fun ⟨P, p, Q, q, e, h1, h2⟩ ho hF hob => ⟨P, p, Q, q, e, h1.step ho hF hob, h2.step ho hF hob⟩
  re := fun ⟨P, p, Q, q, e, h1, h2⟩ hB hob => ⟨P, p, Q, q, e, h1.re hB hob, h2.re hB hob⟩
def kdEk : Ek Kd where
  E := kdE
  K := kdK
  el := fun ⟨P, p, e, h1⟩ => ⟨P, p, e, h1.1⟩
  step := fun ⟨P, p, e, h1⟩ ho hF hob => ⟨P, p, e, h1.step ho hF hob⟩
  re := fun ⟨P, p, e, h1⟩ hB hob => ⟨P, p, e, h1.re hB hob⟩
def spEk : Ek Sp where
  E := spE
  K := fun B ob w x cs => ∃ f v u, cs = [.int .i64 x.1, .bool f, v, u, .int .i64 x.2.2] ∧ NodK B ob w x.2.1 f v u
  el := fun ⟨f, v, u, e, h⟩ => ⟨f, v, u, e, h.now⟩
  step := fun ⟨f, v, u, e, h⟩ ho hF hob => ⟨f, v, u, e, h.step ho hF hob⟩
  re := fun ⟨f, v, u, e, h⟩ hB hob => ⟨f, v, u, e, h.re hB hob⟩
/-- Under way: a row that grows in a variable's field. -/
def Gro {α : Type} (Y : Ek α) (te : TypeId) (wB : World) (bn : Nat) (td : TypeId) (out : List Value) (v : Value) (k : Nat) (l : List α) (wr : World) : Prop :=
  ∃ C, k = l.length ∧ Blk wr bn td out ∧ wr.ownsRow wB.heap.size te Y.E.z v k C ∧ Den (Y.K wB.heap.size v.ownBlock wr) l C ∧ Only (fun j => j = bn ∨ wB.heap.size ≤ j) wB wr
section
variable {α : Type} {Y : Ek α} {te td : TypeId} {wB wr wx w' : World} {bn k : Nat} {out : List Value} {v v' : Value} {l : List α}
theorem Gro.start (hb : Blk wB bn td out) : Gro Y te wB bn td out (.slice none 0 0) 0 [] wB :=
  ⟨[], rfl, hb, World.ownsRow_nil _ _ _ _, rfl, Only.refl _ _⟩
/-- One more. -/
theorem Gro.step {C cs : List Value} {x : α} {o : Obj} {ob0 : Option Nat} (i : Nat) (hn : k = l.length) (hb : Blk wr bn td out) (hr : wr.ownsRow wB.heap.size te Y.E.z v k C) (hd : Den (Y.K wB.heap.size v.ownBlock wr) l C) (ho : Only (fun j => j = bn ∨ wB.heap.size ≤ j) wB wr) (hbn : bn < wB.heap.size)
    (hx : Only (wr.heap.size ≤ ·) wr wx) (hc : Y.K wr.heap.size ob0 wx x cs) (hg : (wx.alloc o).grownBy w' v.ownBlock) (ho' : w'.ownsRow wB.heap.size te Y.E.z v' (k + 1) (C ++ cs)) (hat : v'.ownBlock = v.ownBlock ∨ v'.ownBlock = some (wx.alloc o).heap.size) :
    Gro Y te wB bn td (out.set i v') v' (k + 1) (l ++ [x]) (w'.setCell ⟨bn, i, none⟩ v') := by
  have hl0 := World.ownsRow.lt hr
  have hl' := World.ownsRow.lt ho'
  have hsz := ho.size
  have hsx := hx.size
  have haz : (wx.alloc o).heap.size = wx.heap.size + 1 := by simp
  have ha : Only (fun j => v.ownBlock = some j ∨ wr.heap.size ≤ j) wr (wx.alloc o) := (hx.mono fun j hj => .inr hj).alloc (fun _ h => .inr (by omega)) o
  have hw' : Only (fun j => v.ownBlock = some j ∨ wr.heap.size ≤ j) wr w' := Only.grown ha hg (fun _ h => .inr (by omega)) (fun g hg => .inl hg)
  have hw2 : Only (fun j => j = bn ∨ v.ownBlock = some j ∨ wr.heap.size ≤ j) wr (w'.setCell ⟨bn, i, none⟩ v') := (hw'.mono fun j hj => .inr hj).setCell (p := ⟨bn, i, none⟩) (.inl rfl) v'
  have hob : v'.ownBlock = v.ownBlock ∨ ∃ g, v'.ownBlock = some g ∧ wr.heap.size ≤ g := hat.imp (fun h => h) fun h => ⟨_, h, by omega⟩
  refine ⟨C ++ cs, by rw [List.length_append, hn]; rfl, ?_, ?_, ?_, ?_⟩
  · exact (hb.only hw' fun hf => by
      rcases hf with hf | hf
      · have := hl0 bn hf
        omega
      · omega).set_ i v'
  · exact own_on ho' (F := (· = bn)) ((Only.refl (· = bn) w').setCell (p := ⟨bn, i, none⟩) rfl v') fun j hj e => by
      have := (hl' j hj).1
      omega
  · refine Den.append (hd.mono fun y ds hy => Y.step hy hw2 (fun j h1 h2 hf => ?_) hob) (Den.single ?_)
    · rcases hf with hf | hf | hf
      · omega
      · exact hf
      · omega
    · have hxw : Only (fun j => j = bn ∨ v.ownBlock = some j ∨ wx.heap.size ≤ j) wx (w'.setCell ⟨bn, i, none⟩ v') := (((Only.grown ((Only.refl (fun j => v.ownBlock = some j ∨ wx.heap.size ≤ j) wx).alloc (fun _ h => .inr h) o) hg (fun _ h => .inr (by omega)) (fun g hg => .inl hg)).mono fun j hj => .inr hj)).setCell (p := ⟨bn, i, none⟩) (.inl rfl) v'
      refine Y.step (Y.re (B := wB.heap.size) (ob' := v.ownBlock) hc hsz fun g hg => .inl (hl0 g hg).2) hxw (fun j h1 h2 hf => ?_) (hat.imp (fun h => h) fun h => ⟨_, h, by omega⟩)
      rcases hf with hf | hf | hf
      · omega
      · exact hf
      · omega
  · refine ho.trans (hw2.mono fun j hj => ?_)
    rcases hj with hj | hj | hj
    · exact .inl hj
    · exact .inr (hl0 j hj).1
    · exact .inr (by omega)
/-- One more, in a row that no variable holds. -/
theorem grow_den {B : Nat} {C cs : List Value} {x : α} {o : Obj} {ob0 : Option Nat} (hr : wr.ownsRow B te Y.E.z v k C) (hd : Den (Y.K B v.ownBlock wr) l C) (hB : B ≤ wr.heap.size)
    (hx : Only (wr.heap.size ≤ ·) wr wx) (hc : Y.K wr.heap.size ob0 wx x cs) (hg : (wx.alloc o).grownBy w' v.ownBlock) (hat : v'.ownBlock = v.ownBlock ∨ v'.ownBlock = some (wx.alloc o).heap.size) :
    Den (Y.K B v'.ownBlock w') (l ++ [x]) (C ++ cs) ∧ Only (fun j => v.ownBlock = some j ∨ wr.heap.size ≤ j) wr w' ∧ Only (fun j => v.ownBlock = some j ∨ wx.heap.size ≤ j) wx w' := by
  have hl0 := World.ownsRow.lt hr
  have hsx := hx.size
  have haz : (wx.alloc o).heap.size = wx.heap.size + 1 := by simp
  have ha : Only (fun j => v.ownBlock = some j ∨ wr.heap.size ≤ j) wr (wx.alloc o) := (hx.mono fun j hj => .inr hj).alloc (fun _ h => .inr (by omega)) o
  have hw' : Only (fun j => v.ownBlock = some j ∨ wr.heap.size ≤ j) wr w' := Only.grown ha hg (fun _ h => .inr (by omega)) (fun g hg => .inl hg)
  have hxw : Only (fun j => v.ownBlock = some j ∨ wx.heap.size ≤ j) wx w' := Only.grown ((Only.refl (fun j => v.ownBlock = some j ∨ wx.heap.size ≤ j) wx).alloc (fun _ h => .inr h) o) hg (fun _ h => .inr (by omega)) (fun g hg => .inl hg)
  refine ⟨Den.append (hd.mono fun y ds hy => Y.step hy hw' (fun j h1 h2 hf => ?_) (hat.imp (fun h => h) fun h => ⟨_, h, by omega⟩)) (Den.single ?_), hw', hxw⟩
  · rcases hf with hf | hf
    · exact hf
    · omega
  · refine Y.step (Y.re (B := B) (ob' := v.ownBlock) hc hB fun g hg => .inl (hl0 g hg).2) hxw (fun j h1 h2 hf => ?_) (hat.imp (fun h => h) fun h => ⟨_, h, by omega⟩)
    rcases hf with hf | hf
    · exact hf
    · omega
theorem Gro.rwc (h : Gro Y te wB bn td out v k l wr) : ∃ C, ∀ (F : Nat → Prop) (w' : World), Only F wr w' → (∀ j, F j → j < wB.heap.size ∨ wr.heap.size ≤ j) → RwC Y.E w' v l C := by
  obtain ⟨C, hn, _, hr, hd, _⟩ := h
  have hlt := World.ownsRow.lt hr
  refine ⟨C, fun F w' ho hF => ?_⟩
  have hr' := own_on hr ho fun j hj hf => by have h1 := hlt j hj; rcases hF j hf with h2 | h2 <;> omega
  have hd' : Den (Y.E.At w') l C := hd.mono fun x cs hx => Y.el (Y.step (ob' := v.ownBlock) hx ho (fun j h1 h2 hf => by rcases hF j hf with h3 | h3 <;> omega) (.inl rfl))
  obtain ⟨A, c, rfl, h2, h3, h4, h5, _⟩ := raw_of_own hr'
  subst hn
  exact ⟨hd', A, c, rfl, Den.length (fun _ _ => Y.E.len) hd', h2, h3, h4, h5, Den.one (fun _ _ => Y.E.one) hd'⟩
theorem Gro.rw_ {F : Nat → Prop} (h : Gro Y te wB bn td out v k l wr) (ho : Only F wr w') (hF : ∀ j, F j → j < wB.heap.size ∨ wr.heap.size ≤ j) : Rw Y.E w' v l := by
  obtain ⟨C, hn, _, hr, hd, _⟩ := h
  have hlt := World.ownsRow.lt hr
  have hr' := own_on hr ho fun j hj hf => by have h1 := hlt j hj; rcases hF j hf with h2 | h2 <;> omega
  refine Own.rw_ (E := Y.E) (t := te) (B := wB.heap.size) ⟨hn, C, hd.mono fun x cs hx => Y.el (Y.step (ob' := v.ownBlock) hx ho (fun j h1 h2 hf => ?_) (.inl rfl)), hr'⟩
  rcases hF j hf with h3 | h3 <;> omega
end
end Go.Proofs.Ytnjhpjpeeehagaa
