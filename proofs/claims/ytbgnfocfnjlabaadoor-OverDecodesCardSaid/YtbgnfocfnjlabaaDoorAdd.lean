/-
  addItem, addKid: what is read next goes behind what the node has.
-/
import Derived.Test.YtbgnfocfnjlabaaDoorGc
import Derived.Test.YtbgnfocfnjlabaaDoorPkd
import Derived.RegionTactic
import Derived.BigRegion
import Derived.Deep.CutRange
import Derived.Test.YtbgnfocfnjlabaaDoorGb
import Derived.Maps.AppendAt
set_option linter.unusedVariables false
namespace Go.Proofs.YtbgnfocfnjlabaaDoor
open Go.RowKit

section
variable {P : Program} {w : World}
theorem wp_append_at {o : Oper} {a : Act} {K : Act → World → Prop} {Q : Exit → Act → World → Prop} (s x : Operand) (t : TypeId)
    (ho : o.op = .call { callee := .builtin .append, args := #[s, x], argTypes := #[t, t] })
    (base : Nat) (e : TypeId) (i : TypeInfo) (z : Value) (size bytes : Nat) (ht : P.underlying t = some (.slice e)) (hi : P.info? e = some i) (hz : i.zero = some z)
    (hsize : i.size = size) (hby : i.bytes = bytes) (hzs : z.cells.size = size) (hsz : 0 < size)
    (v : Value) (n : Nat) (xs : List Value) (hs : a.eval s = v) (hown : w.ownsRow base e size v n xs)
    (ad : Addr) (m c : Nat) (news : List Value) (hx : a.eval x = .slice (some ad) m c) (hl : news.length = m * size) (hnews : ∀ j u, news[j]? = some u → w.cell? (ad.add j) = some u) (h1 : ∀ u ∈ news, u.oneCell' = true)
    (h63 : n + m ≤ maxLen) (hbytes : (n + m) * bytes ≤ 140737488355328) (hbase : base ≤ w.heap.size)
    (h : ∀ v' w', w'.ownsRow base e size v' (n + m) (xs ++ news) → w.grownBy w' v.ownBlock → (v'.ownBlock = v.ownBlock ∨ v'.ownBlock = some w.heap.size) → K (a.put o.dst v') w') : o.wp P a w K Q := by
  obtain ⟨v', w', hr, h2, h3, h4, h5⟩ := run_append_own_at (P := P) w base t o.type e i z size bytes ht hi hz hsize hby hzs hsz v n xs hown ad m c news hl hnews h1 h63 hbytes hbase
  unfold Oper.wp execOp
  simp only [ho, resolve, invoke, builtin, Sem.run_bind, Sem.run_pure, Result.andThen_ok, List.map_toArray, List.map_cons, List.map_nil, hs, hx, hr]
  exact h v' w' h2 h3 h5
end

/-- The next item, and the next kid, and the reader behind them. -/
def rdI (g : Int) (c : Cur) : It × Cur :=
  let c3 := ((c.get 1).get 1).get 2
  let c4 := c3.take (c.val 1)
  if (c.get 1).val 1 = 0 then ((c3.got (c.val 1), c4.got (((c.get 1).get 1).val 2), 0, 0), c4.take (((c.get 1).get 1).val 2))
  else ((c3.got (c.val 1), [], (((c.get 1).get 1).val 2 : Nat), (c4.val (tr g 4 8 8) : Nat)), c4.get (tr g 4 8 8))
def rdK (g : Int) (c : Cur) : Kd × Cur := (((c.get 1).got (c.val 1), (((c.get 1).take (c.val 1)).val (tr g 4 8 8) : Nat)), ((c.get 1).take (c.val 1)).get (tr g 4 8 8))
/-- Bytes of the call's own, not in the row that grows. -/
def KeyAt (b0 : Nat) (w : World) (ob : Option Nat) (v : Value) (xs : Bytes) : Prop := Src w v xs ∧ ∀ ad n c, v = .slice (some ad) n c → 0 < n → b0 ≤ ad.block ∧ ob ≠ some ad.block
theorem Src.at_block {w : World} {ad : Addr} {n c : Nat} {xs : Bytes} (h : Src w (.slice (some ad) n c) xs) (hn : 0 < n) : ad.block < w.heap.size := by
  obtain ⟨A', c', e2, ht, _⟩ := h
  simp only [Value.slice.injEq] at e2
  obtain ⟨rfl, rfl, rfl⟩ := e2
  exact ht.block hn
theorem Src.on {w w' : World} {F : Nat → Prop} {v : Value} {xs : Bytes} (h : Src w v xs) (ho : Only F w w') (hF : ∀ ad n c, v = .slice (some ad) n c → 0 < n → ¬ F ad.block) : Src w' v xs := by
  obtain ⟨A, c, rfl, ht, h1⟩ := h
  exact ⟨A, c, rfl, ht.only ho fun ad hn e => hF ad _ c (by rw [e]) hn, h1⟩
theorem KeyAt.step {b0 : Nat} {w w' : World} {F : Nat → Prop} {ob ob' : Option Nat} {v : Value} {xs : Bytes} (h : KeyAt b0 w ob v xs) (ho : Only F w w') (hF : ∀ j, b0 ≤ j → j < w.heap.size → F j → ob = some j) (hob : ob' = ob ∨ ∃ g, ob' = some g ∧ w.heap.size ≤ g) : KeyAt b0 w' ob' v xs := by
  refine ⟨h.1.on ho fun ad n c e hn hf => ?_, fun ad n c e hn => ⟨(h.2 ad n c e hn).1, ?_⟩⟩
  · have h1 := h.2 ad n c e hn
    have h2 := h.1
    rw [e] at h2
    exact h1.2 (hF _ h1.1 (h2.at_block hn) hf)
  · rcases hob with rfl | ⟨g, rfl, hg⟩
    · exact (h.2 ad n c e hn).2
    · have h2 := h.1
      rw [e] at h2
      have := h2.at_block hn
      intro e3
      cases e3
      omega
theorem New.key {w : World} {b b0 : Nat} {ob : Option Nat} {v : Value} {xs : Bytes} (h : New w b v xs) (hb : b0 ≤ b) (hob : ∀ j, ob = some j → j < b ∨ w.heap.size ≤ j) : KeyAt b0 w ob v xs := by
  refine ⟨h.src, fun ad n c e hn => ?_⟩
  have hs := h.src
  obtain ⟨A, c', e2, _, _, _, _, h6⟩ := h
  rw [e2] at e
  simp only [Value.slice.injEq] at e
  obtain ⟨rfl, rfl, rfl⟩ := e
  have h7 := h6 _ rfl
  rw [e2] at hs
  have h8 := hs.at_block hn
  refine ⟨by omega, fun e3 => ?_⟩
  rcases hob _ e3 with h9 | h9 <;> omega
theorem added {w wx w' : World} {p q bn B i z k k' : Nat} {T td te : TypeId} {c : Cur} {v v' : Value} {out C C' : List Value} {o : Obj} (hh : Holds wx p q T c) (hb : Blk wx bn td out) (hr0 : w.ownsRow B te z v k C) (hr : wx.ownsRow B te z v k C)
    (ho : Only (fun j => j = p ∨ w.heap.size ≤ j) w wx) (hp : p < B) (hq : q < B) (hbn : bn < B) (hpn : bn ≠ p) (hqn : bn ≠ q) (hB : B ≤ w.heap.size) (hg : (wx.alloc o).grownBy w' v.ownBlock) (ho' : w'.ownsRow B te z v' k' C') (hat : v'.ownBlock = v.ownBlock ∨ v'.ownBlock = some (wx.alloc o).heap.size) :
    Holds (w'.setCell ⟨bn, i, none⟩ v') p q T c ∧ Blk (w'.setCell ⟨bn, i, none⟩ v') bn td (out.set i v') ∧ (w'.setCell ⟨bn, i, none⟩ v').ownsRow B te z v' k' C' ∧
      (∀ ob0 kv xs, KeyAt w.heap.size wx ob0 kv xs → KeyAt B (w'.setCell ⟨bn, i, none⟩ v') v'.ownBlock kv xs) ∧ (v'.ownBlock = v.ownBlock ∨ ∃ g, v'.ownBlock = some g ∧ w.heap.size ≤ g) ∧
      Only (fun j => j = p ∨ j = bn ∨ v.ownBlock = some j ∨ w.heap.size ≤ j) w (w'.setCell ⟨bn, i, none⟩ v') := by
  have hl0 := World.ownsRow.lt hr0
  have hl' := World.ownsRow.lt ho'
  have hsz := ho.size
  have ha : Only (fun j => v.ownBlock = some j ∨ wx.heap.size ≤ j) wx (wx.alloc o) := (Only.refl _ _).alloc (fun _ h => .inr h) o
  have haz : (wx.alloc o).heap.size = wx.heap.size + 1 := by simp
  have hw' : Only (fun j => v.ownBlock = some j ∨ wx.heap.size ≤ j) wx w' := Only.grown ha hg (fun _ h => .inr h) (fun g hg => .inl hg)
  have hw2 : Only (fun j => j = bn ∨ v.ownBlock = some j ∨ wx.heap.size ≤ j) wx (w'.setCell ⟨bn, i, none⟩ v') := (hw'.mono fun j hj => .inr hj).setCell (p := ⟨bn, i, none⟩) (.inl rfl) v'
  have hbl := hb.lt
  refine ⟨hh.only hw2 fun j hj hlt hf => ?_, ?_, ?_, fun ob0 kv xs hn => ?_, ?_, ?_⟩
  · rcases hf with rfl | hf | hf
    · rcases hj with hj | hj <;> omega
    · have := hl0 j hf
      rcases hj with hj | hj <;> omega
    · omega
  · exact (hb.only hw' fun hf => by
      rcases hf with hf | hf
      · have := hl0 bn hf
        omega
      · omega).set_ i v'
  · refine own_on ho' (F := (· = bn)) ((Only.refl (· = bn) w').setCell (p := ⟨bn, i, none⟩) rfl v') fun j hj e => ?_
    have := (hl' j hj).1
    omega
  · have hk : KeyAt B wx v.ownBlock kv xs := ⟨hn.1, fun ad n c e hlt => ⟨Nat.le_trans hB (hn.2 ad n c e hlt).1, fun e2 => by have := (hl0 _ e2).2; have := (hn.2 ad n c e hlt).1; omega⟩⟩
    refine hk.step hw2 (fun j h1 h2 hf => ?_) ?_
    · rcases hf with hf | hf | hf
      · omega
      · exact hf
      · omega
    · rcases hat with h | h
      · exact .inl h
      · exact .inr ⟨_, h, by omega⟩
  · rcases hat with h | h
    · exact .inl h
    · exact .inr ⟨_, h, by omega⟩
  · refine (ho.mono fun j hj => ?_).trans (hw2.mono fun j hj => ?_)
    · rcases hj with hj | hj
      · exact .inl hj
      · exact .inr (.inr (.inr hj))
    · rcases hj with hj | hj | hj
      · exact .inr (.inl hj)
      · exact .inr (.inr (.inl hj))
      · exact .inr (.inr (.inr (by omega)))

end Go.Proofs.YtbgnfocfnjlabaaDoor
