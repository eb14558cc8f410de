/-
  addItem, addKid: what is read next goes behind what the node has.
-/
import Derived.Test.YtoghojgajpfkkaaGreatDoorGc
import Derived.Test.YtoghojgajpfkkaaGreatDoorPkd
import Derived.RegionTactic
import Derived.BigRegion
import Derived.Deep.CutRange
import Derived.Test.YtoghojgajpfkkaaGreatDoorGb
import Derived.Maps.AppendAt
set_option linter.unusedVariables false
namespace Go.Proofs.YtoghojgajpfkkaaGreatDoor
open Go.RowKit

section
variable {P : Program} {w : World}
theorem wp_append_at {o : Oper} {a : Act} {K : Act → World → Prop} {Q : Exit → Act → World → Prop} (s x : Operand) (t : TypeId)
    (ho : o.op = .call { callee := .builtin .append, args := #[s, x], argTypes := #[t, t] })
    (base : Nat) (e : TypeId) (i : TypeInfo) (z : Value) (size bytes : Nat) (ht : P.underlying t = some (.slice e)) (hi : P.info? e = some i) (hz : i.zero = some z)
    (hsize : i.size = size) (hby : i.bytes = bytes) (hzs : z.cells.size = size) (hsz : 0 < size)
    (v : Value) (n : Nat) (xs : List Value) (hs : a.eval s = v) (hown : w.ownsRow base e size v n xs)
    (ad : Addr) (m c : Nat) (news : List Value) (hx : a.eval x = .slice (some ad) m c) (hl : news.length = m * size) (hnews : ∀ j u, news[j]? = some u → w.cell? (ad.add j) = some u) (h1 : ∀ u ∈ news, u.oneCell' = true)
    (h63 : n + m ≤ maxLen) (hbytes : (n + m) * bytes ≤ 140737488355328) (hbase : base ≤ w.heap.size)
    (h : ∀ v' w', w'.ownsRow base e size v' (n + m) (xs ++ news) → w.grownBy w' v.ownBlock → (v'.ownBlock = v.ownBlock ∨ v'.ownBlock = some w.heap.size) → K (a.put o.dst v') w') : o.wp P a w K Q := by
  obtain ⟨v', w', hr, h2, h3, h4, h5⟩ := run_append_own_at (P := P) w base t o.type e i z size bytes ht hi hz hsize hby hzs hsz v n xs hown ad m c news hl hnews h1 h63 hbytes hbase
  unfold Oper.wp execOp
  simp only [ho, resolve, invoke, builtin, Sem.run_bind, Sem.run_pure, Result.andThen_ok, List.map_toArray, List.map_cons, List.map_nil, hs, hx, hr]
  exact h v' w' h2 h3 h5
end

/-- The next item, and the next kid, and the reader behind them. -/
def rdI (g : Int) (c : Cur) : It × Cur :=
  let c3 := ((c.get 1).get 1).get 2
  let c4 := c3.take (c.val 1)
  if (c.get 1).val 1 = 0 then ((c3.got (c.val 1), c4.got (((c.get 1).get 1).val 2), 0, 0), c4.take (((c.get 1).get 1).val 2))
  else ((c3.got (c.val 1), [], (((c.get 1).get 1).val 2 : Nat), (c4.val (tr g 4 8 8) : Nat)), c4.get (tr g 4 8 8))
def rdK (g : Int) (c : Cur) : Kd × Cur := (((c.get 1).got (c.val 1), (((c.get 1).take (c.val 1)).val (tr g 4 8 8) : Nat)), ((c.get 1).take (c.val 1)).get (tr g 4 8 8))
/-- Bytes of the call's own, not in the row that grows. -/
def KeyAt (b0 : Nat) (w : World) (ob : Option Nat) (v : Value) (xs : Bytes) : Prop := Src w v xs ∧ ∀ ad n c, v = .slice (some ad) n c → 0 < n → b0 ≤ ad.block ∧ ob ≠ some ad.block
theorem Src.at_block {w : World} {ad : Addr} {n c : Nat} {xs : Bytes} (h : Src w (.slice (some ad) n c) xs) (hn : 0 < n) : ad.block < w.heap.size := by
  obtain ⟨A', c', e2, ht, _⟩ := h
  simp only [Value.slice.injEq] at e2
  obtain ⟨rfl, rfl, rfl⟩ := e2
  exact ht.block hn
theorem Src.on {w w' : World} {F : Nat → Prop} {v : Value} {xs : Bytes} (h : Src w v xs) (ho : Only F w w') (hF : ∀ ad n c, v = .slice (some ad) n c → 0 < n → ¬ F ad.block) : Src w' v xs := by
  obtain ⟨A, c, rfl, ht, h1⟩ := h
  exact ⟨A, c, rfl, ht.only ho fun ad hn e => hF ad _ c (by rw [e]) hn, h1⟩
theorem KeyAt.step {b0 : Nat} {w w' : World} {F : Nat → Prop} {ob ob' : Option Nat} {v : Value} {xs : Bytes} (h : KeyAt b0 w ob v xs) (ho : Only F w w') (hF : ∀ j, b0 ≤ j → j < w.heap.size → F j → ob = some j) (hob : ob' = ob ∨ ∃ g, ob' = some g ∧ w.heap.size ≤ g) : KeyAt b0 w' ob' v xs := by
  refine ⟨h.1.on ho fun ad n c e hn hf => ?_, fun ad n c e hn => ⟨(h.2 ad n c e hn).1, ?_⟩⟩
  · have h1 := h.2 ad n c e hn
    have h2 := h.1
    rw [e] at h2
    exact h1.2 (hF _ h1.1 (h2.at_block hn) hf)
  · rcases hob with rfl | ⟨g, rfl, hg⟩
    · exact (h.2 ad n c e hn).2
    · have h2 := h.1
      rw [e] at h2
      have := h2.at_block hn
      intro e3
      cases e3
      omega
theorem New.key {w : World} {b b0 : Nat} {ob : Option Nat} {v : Value} {xs : Bytes} (h : New w b v xs) (hb : b0 ≤ b) (hob : ∀ j, ob = some j → j < b ∨ w.heap.size ≤ j) : KeyAt b0 w ob v xs := by
  refine ⟨h.src, fun ad n c e hn => ?_⟩
  have hs := h.src
  obtain ⟨A, c', e2, _, _, _, _, h6⟩ := h
  rw [e2] at e
  simp only [Value.slice.injEq] at e
  obtain ⟨rfl, rfl, rfl⟩ := e
  have h7 := h6 _ rfl
  rw [e2] at hs
  have h8 := hs.at_block hn
  refine ⟨by omega, fun e3 => ?_⟩
  rcases hob _ e3 with h9 | h9 <;> omega
theorem added {w wx w' : World} {p q bn B i z k k' : Nat} {T td te : TypeId} {c : Cur} {v v' : Value} {out C C' : List Value} {o : Obj} (hh : Holds wx p q T c) (hb : Blk wx bn td out) (hr0 : w.ownsRow B te z v k C) (hr : wx.ownsRow B te z v k C)
    (ho : Only (fun j => j = p ∨ w.heap.size ≤ j) w wx) (hp : p < B) (hq : q < B) (hbn : bn < B) (hpn : bn ≠ p) (hqn : bn ≠ q) (hB : B ≤ w.heap.size) (hg : (wx.alloc o).grownBy w' v.ownBlock) (ho' : w'.ownsRow B te z v' k' C') (hat : v'.ownBlock = v.ownBlock ∨ v'.ownBlock = some (wx.alloc o).heap.size) :
    Holds (w'.setCell ⟨bn, i, none⟩ v') p q T c ∧ Blk (w'.setCell ⟨bn, i, none⟩ v') bn td (out.set i v') ∧ (w'.setCell ⟨bn, i, none⟩ v').ownsRow B te z v' k' C' ∧
      (∀ ob0 kv xs, KeyAt w.heap.size wx ob0 kv xs → KeyAt B (w'.setCell ⟨bn, i, none⟩ v') v'.ownBlock kv xs) ∧ (v'.ownBlock = v.ownBlock ∨ ∃ g, v'.ownBlock = some g ∧ w.heap.size ≤ g) ∧
      Only (fun j => j = p ∨ j = bn ∨ v.ownBlock = some j ∨ w.heap.size ≤ j) w (w'.setCell ⟨bn, i, none⟩ v') := by
  have hl0 := World.ownsRow.lt hr0
  have hl' := World.ownsRow.lt ho'
  have hsz := ho.size
  have ha : Only (fun j => v.ownBlock = some j ∨ wx.heap.size ≤ j) wx (wx.alloc o) := (Only.refl _ _).alloc (fun _ h => .inr h) o
  have haz : (wx.alloc o).heap.size = wx.heap.size + 1 := by simp
  have hw' : Only (fun j => v.ownBlock = some j ∨ wx.heap.size ≤ j) wx w' := Only.grown ha hg (fun _ h => .inr h) (fun g hg => .inl hg)
  have hw2 : Only (fun j => j = bn ∨ v.ownBlock = some j ∨ wx.heap.size ≤ j) wx (w'.setCell ⟨bn, i, none⟩ v') := (hw'.mono fun j hj => .inr hj).setCell (p := ⟨bn, i, none⟩) (.inl rfl) v'
  have hbl := hb.lt
  refine ⟨hh.only hw2 fun j hj hlt hf => ?_, ?_, ?_, fun ob0 kv xs hn => ?_, ?_, ?_⟩
  · rcases hf with rfl | hf | hf
    · rcases hj with hj | hj <;> omega
    · have := hl0 j hf
      rcases hj with hj | hj <;> omega
    · omega
  · exact (hb.only hw' fun hf => by
      rcases hf with hf | hf
      · have := hl0 bn hf
        omega
      · omega).set_ i v'
  · refine own_on ho' (F := (· = bn)) ((Only.refl (· = bn) w').setCell (p := ⟨bn, i, none⟩) rfl v') fun j hj e => ?_
    have := (hl' j hj).1
    omega
  · have hk : KeyAt B wx v.ownBlock kv xs := ⟨hn.1, fun ad n c e hlt => ⟨Nat.le_trans hB (hn.2 ad n c e hlt).1, fun e2 => by have := (hl0 _ e2).2; have := (hn.2 ad n c e hlt).1; omega⟩⟩
    refine hk.step hw2 (fun j h1 h2 hf => ?_) ?_
    · rcases hf with hf | hf | hf
      · omega
      · exact hf
      · omega
    · rcases hat with h | h
      · exact .inl h
      · exact .inr ⟨_, h, by omega⟩
  · rcases hat with h | h
    · exact .inl h
    · exact .inr ⟨_, h, by omega⟩
  · refine (ho.mono fun j hj => ?_).trans (hw2.mono fun j hj => ?_)
    · rcases hj with hj | hj
      · exact .inl hj
      · exact .inr (.inr (.inr hj))
    · rcases hj with hj | hj | hj
      · exact .inr (.inl hj)
      · exact .inr (.inr (.inl hj))
      · exact .inr (.inr (.inr (by omega)))

/-- It goes behind what there is. -/
def AddsI (w : World) (p q bn B : Nat) (c' : Cur) (lf : Bool) (kv : Value) (R : Option Addr) (k t : Nat) (C : List Value) (y : It) (e : Ending) (w' : World) : Prop :=
  ∃ (R' : Option Addr) (t' : Nat) (P : Option Addr) (pc : Nat) (Q : Option Addr) (qc : Nat), e = .returned (.tuple #[]) ∧ Holds w' p q 84 c' ∧ Blk w' bn 28 [.bool lf, .slice R' (k + 1) t', kv] ∧ w'.ownsRow B 44 4 (.slice R' (k + 1) t') (k + 1) (C ++ [.slice P y.1.length pc, .slice Q y.2.1.length qc, .int .i64 y.2.2.1, .int .i64 y.2.2.2]) ∧
    KeyAt B w' (Value.slice R' (k + 1) t').ownBlock (.slice P y.1.length pc) y.1 ∧ KeyAt B w' (Value.slice R' (k + 1) t').ownBlock (.slice Q y.2.1.length qc) y.2.1 ∧ ((Value.slice R' (k + 1) t').ownBlock = (Value.slice R k t).ownBlock ∨ ∃ g, (Value.slice R' (k + 1) t').ownBlock = some g ∧ w.heap.size ≤ g) ∧
    Only (fun j => j = p ∨ j = bn ∨ (Value.slice R k t).ownBlock = some j ∨ w.heap.size ≤ j) w w'
set_option maxRecDepth 100000 in
set_option maxHeartbeats 12800000 in
theorem addI_c (w : World) (p q bn B : Nat) (c : Cur) (g : Int) (lf : Bool) (kv : Value) (R : Option Addr) (k t : Nat) (C : List Value)
    (h : Holds w p q 84 c) (hb : Blk w bn 28 [.bool lf, .slice R k t, kv]) (hr : w.ownsRow B 44 4 (.slice R k t) k C) (hp : p < B) (hq : q < B) (hbn : bn < B) (hpn : bn ≠ p) (hqn : bn ≠ q) (hB : B ≤ w.heap.size) (hk : k ≤ 100000) (hG : ∀ W, Only (fun j => j = p ∨ w.heap.size ≤ j) w W → Gens W) :
    Calls Tryz.prog 80 #[.agg #[.pointer (some ⟨p, 0, none⟩), .int .i64 g], .pointer (some ⟨bn, 0, none⟩)] w (AddsI w p q bn B (rdI g c).2 lf kv R k t C (rdI g c).1) := by
  obtain ⟨i1', hi0, hz0, hz1, hz2⟩ := info_parts info_I
  have HI1 := Lib.hid (And.intro hi0 (And.intro hz0 (And.intro hz1 hz2)))
  clear hi0 hz0 hz1 hz2
  obtain ⟨W0, hW0⟩ : ∃ W0, W0 = w.alloc (.cells #[.pointer (some ⟨p, 0, none⟩), .int .i64 g] 93) := ⟨_, rfl⟩
  have HO : Hid (Only (w.heap.size ≤ ·) w W0) := Lib.hid (by rw [hW0]; exact (Only.refl _ w).alloc (fun _ h => h) _)
  have HI : Hid (Blk W0 w.heap.size 93 [.pointer (some ⟨p, 0, none⟩), .int .i64 g]) := Lib.hid (by rw [hW0]; exact Blk.new w 93 _)
  have HZ : Hid (w.heap.size < W0.heap.size) := Lib.hid HI.out.lt
  have HPL : Hid (p < w.heap.size) := Lib.hid h.lt
  have HH := Lib.hid (h.later HO.out)
  have HL : Hid (Only (fun j => j = p ∨ W0.heap.size ≤ j) W0 W0) := Lib.hid (Only.refl _ _)
  have HF : Hid (∀ W, Only (fun j => j = p ∨ W0.heap.size ≤ j) W0 W → Only (fun j => j = p ∨ w.heap.size ≤ j) w W) := Lib.hid fun W hW => (HO.out.mono fun j hj => Or.inr hj).trans (hW.mono fun j hj => hj.elim Or.inl fun e => Or.inr (by have := HZ.out; omega))
  have KC : Hid (∀ W, Only (fun j => j = p ∨ W0.heap.size ≤ j) W0 W → W.cell? ⟨w.heap.size, 0, none⟩ = some (.pointer (some ⟨p, 0, none⟩)) ∧ W.cell? ⟨w.heap.size, 1, none⟩ = some (.int .i64 g)) := Lib.hid fun W hW => (HI.out.only hW (by have := HZ.out; have := HPL.out; rintro (e | e) <;> omega)).pair
  have HBN : Hid (∀ W, Only (fun j => j = p ∨ W0.heap.size ≤ j) W0 W → Blk W bn 28 [.bool lf, .slice R k t, kv]) := Lib.hid fun W hW => hb.only (HF.out W hW) (by have := hb.lt; rintro (e | e) <;> omega)
  have HR0 := Lib.hid hr
  have HRW : Hid (∀ W, Only (fun j => j = p ∨ W0.heap.size ≤ j) W0 W → W.ownsRow B 44 4 (.slice R k t) k C) := Lib.hid fun W hW => own_on hr (HF.out W hW) fun j hj hf => by have := World.ownsRow.lt hr j hj; rcases hf with hf | hf <;> omega
  have HIW : Hid (∀ W, Only (fun j => j = p ∨ W0.heap.size ≤ j) W0 W → Calls Tryz.prog 41 #[.int .i64 g] W (Told W (.int .i64 (tr g 4 8 8)))) := Lib.hid fun W hW => IdWidth_c W g (hG W (HF.out W hW))
  have HNB := Lib.hid (And.intro hp (And.intro hq (And.intro hbn (And.intro hpn (And.intro hqn hB)))))
  obtain ⟨l, hl⟩ : ∃ l, l = c.val 1 := ⟨_, rfl⟩
  obtain ⟨C1, hC1⟩ : ∃ x, x = c.get 1 := ⟨_, rfl⟩
  obtain ⟨pl, hpl⟩ : ∃ l, l = C1.val 1 := ⟨_, rfl⟩
  obtain ⟨C2, hC2⟩ : ∃ x, x = C1.get 1 := ⟨_, rfl⟩
  obtain ⟨sz, hsz⟩ : ∃ l, l = C2.val 2 := ⟨_, rfl⟩
  obtain ⟨C3, hC3⟩ : ∃ x, x = C2.get 2 := ⟨_, rfl⟩
  obtain ⟨ks, hks⟩ : ∃ x, x = C3.got l := ⟨_, rfl⟩
  obtain ⟨C4, hC4⟩ : ∃ x, x = C3.take l := ⟨_, rfl⟩
  have G1 : Hid (∀ W, Holds W p q 84 c → Calls Tryz.prog 39 #[.pointer (some ⟨p, 0, none⟩), .int .i64 1] W fun e w' => e = .returned (.int .i64 l) ∧ Holds w' p q 84 C1 ∧ Only (· = p) W w') := Lib.hid fun W hW => by rw [hl, hC1]; exact Get_c W p q c hW 1
  have G2 : Hid (∀ W, Holds W p q 84 C1 → Calls Tryz.prog 39 #[.pointer (some ⟨p, 0, none⟩), .int .i64 1] W fun e w' => e = .returned (.int .i64 pl) ∧ Holds w' p q 84 C2 ∧ Only (· = p) W w') := Lib.hid fun W hW => by rw [hpl, hC2]; exact Get_c W p q C1 hW 1
  have G3 : Hid (∀ W, Holds W p q 84 C2 → Calls Tryz.prog 39 #[.pointer (some ⟨p, 0, none⟩), .int .i64 2] W fun e w' => e = .returned (.int .i64 sz) ∧ Holds w' p q 84 C3 ∧ Only (· = p) W w') := Lib.hid fun W hW => by rw [hsz, hC3]; exact Get_c W p q C2 hW 2
  obtain ⟨kn, hkn⟩ : ∃ x, x = ks.length := ⟨_, rfl⟩
  have G4 : Hid (∀ W, Holds W p q 84 C3 → Calls Tryz.prog 101 #[.pointer (some ⟨p, 0, none⟩), .int .i64 l] W fun e w' => ∃ P pc, e = .returned (.slice P kn pc) ∧ New w' W.heap.size (.slice P kn pc) ks ∧ Holds w' p q 84 C4 ∧ Only (fun j => j = p ∨ W.heap.size ≤ j) W w') := Lib.hid fun W hW => by rw [hkn, hks, hC4]; exact RBytes_n W p q C3 hW l
  have HKN := Lib.hid hkn
  have HRD : Hid (rdI g c = if pl = 0 then ((ks, C4.got sz, 0, 0), C4.take sz) else ((ks, [], ((sz : Nat) : Int), ((C4.val (tr g 4 8 8) : Nat) : Int)), C4.get (tr g 4 8 8))) := Lib.hid (by rw [hks, hC4, hpl, hsz, hC3, hC2, hl, hC1]; rfl)
  obtain ⟨RV, hRV⟩ : ∃ x, x = rdI g c := ⟨_, rfl⟩
  rw [← hRV] at HRD ⊢
  obtain ⟨v, hv⟩ : ∃ v, v = tr g 4 8 8 := ⟨_, rfl⟩
  rw [← hv] at HIW HRD
  clear h hb hr hp hq hbn hpn hqn hB hG hRV hv hl hC3 hks hC4 hkn hC1 hpl hC2 hsz
  obtain ⟨i0, i1⟩ := KC.out _ HL.out
  go_enter Tryz.func80, Tryz.ntmps80
  by_cases hpl0 : pl = 0
  · subst hpl0
    obtain ⟨vs, hvs⟩ : ∃ x, x = C4.got sz := ⟨_, rfl⟩
    obtain ⟨C5, hC5⟩ : ∃ x, x = C4.take sz := ⟨_, rfl⟩
    obtain ⟨vn, hvn⟩ : ∃ x, x = vs.length := ⟨_, rfl⟩
    have G5 : Hid (∀ W, Holds W p q 84 C4 → Calls Tryz.prog 101 #[.pointer (some ⟨p, 0, none⟩), .int .i64 sz] W fun e w' => ∃ P pc, e = .returned (.slice P vn pc) ∧ New w' W.heap.size (.slice P vn pc) vs ∧ Holds w' p q 84 C5 ∧ Only (fun j => j = p ∨ W.heap.size ≤ j) W w') := Lib.hid fun W hW => by rw [hvn, hvs, hC5]; exact RBytes_n W p q C4 hW sz
    have HVN := Lib.hid hvn
    have HRV : Hid (RV = ((ks, vs, 0, 0), C5)) := Lib.hid (by rw [HRD.out, if_pos rfl, hvs, hC5])
    clear HRD hvs hC5 hvn
    go_upto_region 1 with (fail)
    rw [← hW0]
    clear hW0
    go_upto_region 5 with (first
      | (go_at_call 39; (with_reducible refine (G1.out _ HH.out).mono ?_); rintro ee w2 ⟨rfl, hh, ho⟩; (replace HH := Lib.hid hh); (replace HL := Lib.hid (HL.out.trans (ho.mono fun j hj => Or.inl hj))); clear hh ho; clear i0 i1; (obtain ⟨i0, i1⟩ := (KC.out _ HL.out)))
      | (go_at_call 39; (with_reducible refine (G2.out _ HH.out).mono ?_); rintro ee w2 ⟨rfl, hh, ho⟩; (replace HH := Lib.hid hh); (replace HL := Lib.hid (HL.out.trans (ho.mono fun j hj => Or.inl hj))); clear hh ho; clear i0 i1; (obtain ⟨i0, i1⟩ := (KC.out _ HL.out)))
      | (go_at_call 39; (with_reducible refine (G3.out _ HH.out).mono ?_); rintro ee w2 ⟨rfl, hh, ho⟩; (replace HH := Lib.hid hh); (replace HL := Lib.hid (HL.out.trans (ho.mono fun j hj => Or.inl hj))); clear hh ho; clear i0 i1; (obtain ⟨i0, i1⟩ := (KC.out _ HL.out)))
      | (go_at_call 101; (with_reducible refine (G4.out _ HH.out).mono ?_); rintro ee w4 ⟨KP, kc, rfl, hn, hh, ho⟩; (replace HH := Lib.hid hh); have HNK : Hid (KeyAt w.heap.size w4 (some w4.heap.size) (.slice KP kn kc) ks) := Lib.hid (hn.key (Nat.le_trans (Nat.le_of_lt HZ.out) HL.out.size) (fun j hj => .inr (by cases hj; exact Nat.le_refl _))); (replace HL := Lib.hid (HL.out.trans (ho.mono fun j hj => hj.elim Or.inl fun e => Or.inr (Nat.le_trans HL.out.size e)))); clear hh ho hn))
    obtain ⟨ib, hib⟩ : ∃ x, x = w4.heap.size := ⟨_, rfl⟩
    obtain ⟨w5, hw5⟩ : ∃ x, x = w4.alloc (.cells #[.slice KP kn kc, .slice none 0 0, .int .i64 0, .int .i64 0] 44) := ⟨_, rfl⟩
    have HIB : Hid (Blk w5 ib 44 [.slice KP kn kc, .slice none 0 0, .int .i64 0, .int .i64 0]) := Lib.hid (by rw [hib, hw5]; exact Blk.new w4 44 _)
    have HIP : Hid (p < ib) := Lib.hid (by rw [hib]; exact Nat.lt_of_lt_of_le (Nat.lt_of_lt_of_le HPL.out HO.out.size) HL.out.size)
    have HIG : Hid (W0.heap.size ≤ ib) := Lib.hid (by rw [hib]; exact HL.out.size)
    replace HL : Hid (Only (fun j => j = p ∨ W0.heap.size ≤ j) W0 w5) := Lib.hid (by rw [hw5]; exact HL.out.alloc (fun _ h => .inr h) _)
    replace HH : Hid (Holds w5 p q 84 C4) := Lib.hid (by rw [hw5]; exact HH.out.later ((Only.refl _ _).alloc (fun _ h => h) _))
    replace HNK : Hid (KeyAt w.heap.size w5 (some ib) (.slice KP kn kc) ks) := Lib.hid (by rw [hw5, hib]; exact HNK.out.step ((Only.refl (w4.heap.size ≤ ·) _).alloc (fun _ h => h) _) (fun j _ h1 h2 => absurd h2 (Nat.not_le.2 h1)) (.inl rfl))
    rw [← hw5, ← hib]
    clear hw5 hib i0 i1
    obtain ⟨i0, i1⟩ := KC.out _ HL.out
    go_wp2_with (go_at_call 101; (with_reducible refine (G5.out _ HH.out).mono ?_); rintro ee w6 ⟨VP, vc, rfl, hn, hh, ho⟩; (replace HH := Lib.hid hh); have HNV : Hid (KeyAt w.heap.size w6 (some ib) (.slice VP vn vc) vs) := Lib.hid (hn.key (Nat.le_trans (Nat.le_of_lt HZ.out) HL.out.size) (fun j hj => .inl (by cases hj; exact HIB.out.lt))); (replace HIB := Lib.hid (HIB.out.only ho (by have := HIP.out; have := HIB.out.lt; omega))); (replace HNK := Lib.hid (HNK.out.step ho (fun j hj h1 e => by have := HPL.out; omega) (.inl rfl))); (replace HL := Lib.hid (HL.out.trans (ho.mono fun j hj => hj.elim Or.inl fun e => Or.inr (Nat.le_trans HL.out.size e)))); (obtain ⟨b0, b1, b2, b3⟩ := HIB.out.four); have f0 := HIB.out.frozen 0; have f1 := HIB.out.frozen 1; have f2 := HIB.out.frozen 2; have f3 := HIB.out.frozen 3; clear hh ho hn)
    obtain ⟨wy, hwy⟩ : ∃ wy, wy = w6.setCell ⟨ib, 1, none⟩ (.slice VP vn vc) := ⟨_, rfl⟩
    have HOS : Hid (Only (· = ib) w6 wy) := Lib.hid (by rw [hwy]; exact (Only.refl (· = ib) _).setCell (p := ⟨ib, 1, none⟩) rfl _)
    replace HIB : Hid (Blk wy ib 44 [.slice KP kn kc, .slice VP vn vc, .int .i64 0, .int .i64 0]) := Lib.hid (by rw [hwy]; exact HIB.out.set_ 1 _)
    replace HH : Hid (Holds wy p q 84 C5) := Lib.hid (HH.out.only HOS.out (fun j hj _ e => by have h1 := HNB.out; have h2 := HIG.out; have h3 := HZ.out; rcases hj with hj | hj <;> omega))
    replace HNK := Lib.hid (HNK.out.step HOS.out (fun j _ _ e => by rw [e]) (.inl rfl))
    replace HNV := Lib.hid (HNV.out.step HOS.out (fun j _ _ e => by rw [e]) (.inl rfl))
    replace HL : Hid (Only (fun j => j = p ∨ W0.heap.size ≤ j) W0 wy) := Lib.hid (HL.out.trans (HOS.out.mono fun j hj => Or.inr (by rw [hj]; exact HIG.out)))
    rw [← hwy]
    clear hwy
    obtain ⟨wx, hwx⟩ : ∃ wx, wx = wy.drew := ⟨_, rfl⟩
    have HHX : Hid (Holds wx p q 84 _) := Lib.hid (by rw [hwx]; exact HH.out.drewN 1)
    have HLX0 : Hid (Only (fun j => j = p ∨ W0.heap.size ≤ j) W0 wx) := Lib.hid (by rw [hwx]; exact HL.out.drew)
    have HLX := Lib.hid (HF.out _ HLX0.out)
    have HBX := Lib.hid (HBN.out _ HLX0.out)
    have HRX := Lib.hid (HRW.out _ HLX0.out)
    have HIX : Hid (Blk wx ib 44 [.slice KP kn kc, .slice VP vn vc, .int .i64 0, .int .i64 0]) := Lib.hid (by rw [hwx]; exact HIB.out.drew)
    have HNX : Hid (KeyAt w.heap.size wx (some ib) (.slice KP kn kc) ks) := Lib.hid (by rw [hwx]; exact HNK.out.step (F := fun _ => False) ((Only.refl _ _).drew) (fun _ _ _ h => h.elim) (.inl rfl))
    have HVX : Hid (KeyAt w.heap.size wx (some ib) (.slice VP vn vc) vs) := Lib.hid (by rw [hwx]; exact HNV.out.step (F := fun _ => False) ((Only.refl _ _).drew) (fun _ _ _ h => h.elim) (.inl rfl))
    have HBA : Hid (Blk (wx.alloc (.cells #[.slice KP kn kc, .slice VP vn vc, .int .i64 0, .int .i64 0] 44)) wx.heap.size 44 [.slice KP kn kc, .slice VP vn vc, .int .i64 0, .int .i64 0]) := Lib.hid (Blk.new wx 44 _)
    have HBY := Lib.hid (HBX.out.alloc (.cells #[.slice KP kn kc, .slice VP vn vc, .int .i64 0, .int .i64 0] 44))
    obtain ⟨o0, o1, o2⟩ := HBX.out.tri
    obtain ⟨u0, u1, u2⟩ := HBY.out.tri
    obtain ⟨x0, x1, x2, x3⟩ := HIX.out.four
    try clear i0 i1
    try clear f0 f1
    try clear b0 b1
    try clear f2 f3
    try clear b2 b3
    refine wp_region_list (B := [false, false, false, false, false, false, false, false, false, false, false]) (S := (fun _ => True)) (by kernel_rfl) (by kernel_rfl) (by kernel_rfl) trivial (fun hsel hHeld => ?_)
    rw [← hwx]
    clear hwx
    refine oneA 0 38 hsel (h := ?_)
    simp only [Act.put, List.setIfInBounds_toArray, List.set_cons_zero, List.set_cons_succ]
    refine oneA 1 39 hsel (h := ?_)
    simp only [Act.put, List.setIfInBounds_toArray, List.set_cons_zero, List.set_cons_succ]
    refine oneA 2 40 hsel (h := ?_)
    simp only [Act.put, List.setIfInBounds_toArray, List.set_cons_zero, List.set_cons_succ]
    refine oneA 3 41 hsel (h := ?_)
    simp only [Act.put, List.setIfInBounds_toArray, List.set_cons_zero, List.set_cons_succ]
    refine wpAnyL_ready (rs := [4, 5]) (by kernel_rfl) (by kernel_rfl) (by simp) ?_
    refine AllReadyL.cons (o := ?_) ?_ (fun K hK => ?_) (AllReadyL.cons (o := ?_) ?_ (fun K hK => ?_) AllReadyL.nil)
    case refine_2 => (simp only [List.getElem?_cons_succ, List.getElem?_cons_zero]; rfl)
    case refine_5 => (simp only [List.getElem?_cons_succ, List.getElem?_cons_zero]; rfl)
    case refine_3 =>
      go_simp
      clear hHeld
      refine hK.out _ _ trivial (fun hHeld => ?_)
      clear hK K
      try simp only [List.set_cons_zero, List.set_cons_succ]
      refine wpAnyL_ready (rs := [5]) (by kernel_rfl) (by kernel_rfl) (by simp) ?_
      refine AllReadyL.cons (o := ?_) ?_ (fun K hK => ?_) AllReadyL.nil
      case refine_2 => (simp only [List.getElem?_cons_succ, List.getElem?_cons_zero]; rfl)
      go_simp
      clear hHeld
      refine hK.out _ _ trivial (fun hHeld => ?_)
      clear hK K
      try simp only [List.set_cons_zero, List.set_cons_succ]
      refine wpAnyL_ready (rs := [6]) (by kernel_rfl) (by kernel_rfl) (by simp) ?_
      refine AllReadyL.cons (o := ?_) ?_ (fun K hK => ?_) AllReadyL.nil
      case refine_2 => (simp only [List.getElem?_cons_succ, List.getElem?_cons_zero]; rfl)
      go_simp
      clear hHeld
      refine hK.out _ _ trivial (fun hHeld => ?_)
      clear hK K
      try simp only [List.set_cons_zero, List.set_cons_succ]
      refine wpAnyL_ready (rs := [7]) (by kernel_rfl) (by kernel_rfl) (by simp) ?_
      refine AllReadyL.cons (o := ?_) ?_ (fun K hK => ?_) AllReadyL.nil
      case refine_2 => (simp only [List.getElem?_cons_succ, List.getElem?_cons_zero]; rfl)
      rw [if_pos (by kernel_rfl)]
      refine wp_append_at (.tmp 42) (.tmp 44) 25 rfl B 44 i1' zI 4 64 Tryz.underlying25 HI1.out.1 HI1.out.2.1 HI1.out.2.2.1 HI1.out.2.2.2 (by rfl) (by omega) (.slice R k t) k C rfl (World.ownsRow.alloc HRX.out _) ⟨wx.heap.size, 0, none⟩ 1 1 [.slice KP kn kc, .slice VP vn vc, .int .i64 0, .int .i64 0] rfl rfl (fun j u hu => by rw [Addr.add_lit, HBA.out.cell, Nat.zero_add]; exact hu) (by simp [Value.oneCell']) (by simp only [maxLen]; omega) (by omega) (by have := HNB.out.2.2.2.2.2; have := HLX.out.size; simp; omega) ?_
      intro v' w' ho' hg' hat'
      obtain ⟨R2, t2, rfl, _⟩ := raw_of_own ho'
      have HAD := Lib.hid (added (i := 1) HHX.out HBX.out HR0.out HRX.out HLX.out HNB.out.1 HNB.out.2.1 HNB.out.2.2.1 HNB.out.2.2.2.1 HNB.out.2.2.2.2.1 HNB.out.2.2.2.2.2 hg' ho' hat')
      have HB2 : Hid (Blk w' bn 28 [.bool lf, .slice R k t, kv]) := Lib.hid ((hg'.block bn (by have := HBX.out.lt; simp; omega) (fun e => by have := World.ownsRow.lt HR0.out bn e.symm; have := HNB.out; omega)).trans (HBX.out.alloc _))
      obtain ⟨y0, y1, y2⟩ := HB2.out.tri
      obtain ⟨g0, g1, g2⟩ := HB2.out.melt3
      clear ho' hg' hat'
      clear hHeld
      refine hK.out _ _ trivial (fun hHeld => ?_)
      clear hK K
      try simp only [Act.put, List.setIfInBounds_toArray, List.set_cons_zero, List.set_cons_succ]
      refine oneA 8 46 hsel (h := ?_)
      simp only [Act.put, List.setIfInBounds_toArray, List.set_cons_zero, List.set_cons_succ]
      refine oneA 9 47 hsel (h := ?_)
      simp only [Act.put, List.setIfInBounds_toArray, List.set_cons_zero, List.set_cons_succ]
      refine wpAnyL_ready (rs := [10]) (by kernel_rfl) (by kernel_rfl) (by simp) ?_
      refine AllReadyL.cons (o := ?_) ?_ (fun K hK => ?_) AllReadyL.nil
      case refine_2 => (simp only [List.getElem?_cons_succ, List.getElem?_cons_zero]; rfl)
      go_simp
      clear hHeld
      refine hK.out _ _ trivial (fun hHeld => ?_)
      clear hK K
      try simp only [List.set_cons_zero, List.set_cons_succ]
      refine wpAnyL_done (by kernel_rfl) (by kernel_rfl) ?_ _
      clear hsel hHeld
      go_wp2
      go_end0
      have hkn := HKN.out
      have hvn := HVN.out
      subst hkn
      subst hvn
      rw [HRV.out]
      exact ⟨_, _, _, _, _, _, rfl, HAD.out.1, HAD.out.2.1, HAD.out.2.2.1, HAD.out.2.2.2.1 _ _ _ HNX.out, HAD.out.2.2.2.1 _ _ _ HVX.out, HAD.out.2.2.2.2.1, HAD.out.2.2.2.2.2⟩
    case refine_6 =>
      go_simp
      clear hHeld
      refine hK.out _ _ trivial (fun hHeld => ?_)
      clear hK K
      try simp only [List.set_cons_zero, List.set_cons_succ]
      refine wpAnyL_ready (rs := [4, 6]) (by kernel_rfl) (by kernel_rfl) (by simp) ?_
      refine AllReadyL.cons (o := ?_) ?_ (fun K hK => ?_) (AllReadyL.cons (o := ?_) ?_ (fun K hK => ?_) AllReadyL.nil)
      case refine_2 => (simp only [List.getElem?_cons_succ, List.getElem?_cons_zero]; rfl)
      case refine_5 => (simp only [List.getElem?_cons_succ, List.getElem?_cons_zero]; rfl)
      case refine_3 =>
        go_simp
        clear hHeld
        refine hK.out _ _ trivial (fun hHeld => ?_)
        clear hK K
        try simp only [List.set_cons_zero, List.set_cons_succ]
        refine wpAnyL_ready (rs := [6]) (by kernel_rfl) (by kernel_rfl) (by simp) ?_
        refine AllReadyL.cons (o := ?_) ?_ (fun K hK => ?_) AllReadyL.nil
        case refine_2 => (simp only [List.getElem?_cons_succ, List.getElem?_cons_zero]; rfl)
        go_simp
        clear hHeld
        refine hK.out _ _ trivial (fun hHeld => ?_)
        clear hK K
        try simp only [List.set_cons_zero, List.set_cons_succ]
        refine wpAnyL_ready (rs := [7]) (by kernel_rfl) (by kernel_rfl) (by simp) ?_
        refine AllReadyL.cons (o := ?_) ?_ (fun K hK => ?_) AllReadyL.nil
        case refine_2 => (simp only [List.getElem?_cons_succ, List.getElem?_cons_zero]; rfl)
        rw [if_pos (by kernel_rfl)]
        refine wp_append_at (.tmp 42) (.tmp 44) 25 rfl B 44 i1' zI 4 64 Tryz.underlying25 HI1.out.1 HI1.out.2.1 HI1.out.2.2.1 HI1.out.2.2.2 (by rfl) (by omega) (.slice R k t) k C rfl (World.ownsRow.alloc HRX.out _) ⟨wx.heap.size, 0, none⟩ 1 1 [.slice KP kn kc, .slice VP vn vc, .int .i64 0, .int .i64 0] rfl rfl (fun j u hu => by rw [Addr.add_lit, HBA.out.cell, Nat.zero_add]; exact hu) (by simp [Value.oneCell']) (by simp only [maxLen]; omega) (by omega) (by have := HNB.out.2.2.2.2.2; have := HLX.out.size; simp; omega) ?_
        intro v' w' ho' hg' hat'
        obtain ⟨R2, t2, rfl, _⟩ := raw_of_own ho'
        have HAD := Lib.hid (added (i := 1) HHX.out HBX.out HR0.out HRX.out HLX.out HNB.out.1 HNB.out.2.1 HNB.out.2.2.1 HNB.out.2.2.2.1 HNB.out.2.2.2.2.1 HNB.out.2.2.2.2.2 hg' ho' hat')
        have HB2 : Hid (Blk w' bn 28 [.bool lf, .slice R k t, kv]) := Lib.hid ((hg'.block bn (by have := HBX.out.lt; simp; omega) (fun e => by have := World.ownsRow.lt HR0.out bn e.symm; have := HNB.out; omega)).trans (HBX.out.alloc _))
        obtain ⟨y0, y1, y2⟩ := HB2.out.tri
        obtain ⟨g0, g1, g2⟩ := HB2.out.melt3
        clear ho' hg' hat'
        clear hHeld
        refine hK.out _ _ trivial (fun hHeld => ?_)
        clear hK K
        try simp only [Act.put, List.setIfInBounds_toArray, List.set_cons_zero, List.set_cons_succ]
        refine oneA 8 46 hsel (h := ?_)
        simp only [Act.put, List.setIfInBounds_toArray, List.set_cons_zero, List.set_cons_succ]
        refine oneA 9 47 hsel (h := ?_)
        simp only [Act.put, List.setIfInBounds_toArray, List.set_cons_zero, List.set_cons_succ]
        refine wpAnyL_ready (rs := [10]) (by kernel_rfl) (by kernel_rfl) (by simp) ?_
        refine AllReadyL.cons (o := ?_) ?_ (fun K hK => ?_) AllReadyL.nil
        case refine_2 => (simp only [List.getElem?_cons_succ, List.getElem?_cons_zero]; rfl)
        go_simp
        clear hHeld
        refine hK.out _ _ trivial (fun hHeld => ?_)
        clear hK K
        try simp only [List.set_cons_zero, List.set_cons_succ]
        refine wpAnyL_done (by kernel_rfl) (by kernel_rfl) ?_ _
        clear hsel hHeld
        go_wp2
        go_end0
        have hkn := HKN.out
        have hvn := HVN.out
        subst hkn
        subst hvn
        rw [HRV.out]
        exact ⟨_, _, _, _, _, _, rfl, HAD.out.1, HAD.out.2.1, HAD.out.2.2.1, HAD.out.2.2.2.1 _ _ _ HNX.out, HAD.out.2.2.2.1 _ _ _ HVX.out, HAD.out.2.2.2.2.1, HAD.out.2.2.2.2.2⟩
      case refine_6 =>
        go_simp
        clear hHeld
        refine hK.out _ _ trivial (fun hHeld => ?_)
        clear hK K
        try simp only [List.set_cons_zero, List.set_cons_succ]
        refine wpAnyL_ready (rs := [4]) (by kernel_rfl) (by kernel_rfl) (by simp) ?_
        refine AllReadyL.cons (o := ?_) ?_ (fun K hK => ?_) AllReadyL.nil
        case refine_2 => (simp only [List.getElem?_cons_succ, List.getElem?_cons_zero]; rfl)
        go_simp
        clear hHeld
        refine hK.out _ _ trivial (fun hHeld => ?_)
        clear hK K
        try simp only [List.set_cons_zero, List.set_cons_succ]
        refine wpAnyL_ready (rs := [7]) (by kernel_rfl) (by kernel_rfl) (by simp) ?_
        refine AllReadyL.cons (o := ?_) ?_ (fun K hK => ?_) AllReadyL.nil
        case refine_2 => (simp only [List.getElem?_cons_succ, List.getElem?_cons_zero]; rfl)
        rw [if_pos (by kernel_rfl)]
        refine wp_append_at (.tmp 42) (.tmp 44) 25 rfl B 44 i1' zI 4 64 Tryz.underlying25 HI1.out.1 HI1.out.2.1 HI1.out.2.2.1 HI1.out.2.2.2 (by rfl) (by omega) (.slice R k t) k C rfl (World.ownsRow.alloc HRX.out _) ⟨wx.heap.size, 0, none⟩ 1 1 [.slice KP kn kc, .slice VP vn vc, .int .i64 0, .int .i64 0] rfl rfl (fun j u hu => by rw [Addr.add_lit, HBA.out.cell, Nat.zero_add]; exact hu) (by simp [Value.oneCell']) (by simp only [maxLen]; omega) (by omega) (by have := HNB.out.2.2.2.2.2; have := HLX.out.size; simp; omega) ?_
        intro v' w' ho' hg' hat'
        obtain ⟨R2, t2, rfl, _⟩ := raw_of_own ho'
        have HAD := Lib.hid (added (i := 1) HHX.out HBX.out HR0.out HRX.out HLX.out HNB.out.1 HNB.out.2.1 HNB.out.2.2.1 HNB.out.2.2.2.1 HNB.out.2.2.2.2.1 HNB.out.2.2.2.2.2 hg' ho' hat')
        have HB2 : Hid (Blk w' bn 28 [.bool lf, .slice R k t, kv]) := Lib.hid ((hg'.block bn (by have := HBX.out.lt; simp; omega) (fun e => by have := World.ownsRow.lt HR0.out bn e.symm; have := HNB.out; omega)).trans (HBX.out.alloc _))
        obtain ⟨y0, y1, y2⟩ := HB2.out.tri
        obtain ⟨g0, g1, g2⟩ := HB2.out.melt3
        clear ho' hg' hat'
        clear hHeld
        refine hK.out _ _ trivial (fun hHeld => ?_)
        clear hK K
        try simp only [Act.put, List.setIfInBounds_toArray, List.set_cons_zero, List.set_cons_succ]
        refine oneA 8 46 hsel (h := ?_)
        simp only [Act.put, List.setIfInBounds_toArray, List.set_cons_zero, List.set_cons_succ]
        refine oneA 9 47 hsel (h := ?_)
        simp only [Act.put, List.setIfInBounds_toArray, List.set_cons_zero, List.set_cons_succ]
        refine wpAnyL_ready (rs := [10]) (by kernel_rfl) (by kernel_rfl) (by simp) ?_
        refine AllReadyL.cons (o := ?_) ?_ (fun K hK => ?_) AllReadyL.nil
        case refine_2 => (simp only [List.getElem?_cons_succ, List.getElem?_cons_zero]; rfl)
        go_simp
        clear hHeld
        refine hK.out _ _ trivial (fun hHeld => ?_)
        clear hK K
        try simp only [List.set_cons_zero, List.set_cons_succ]
        refine wpAnyL_done (by kernel_rfl) (by kernel_rfl) ?_ _
        clear hsel hHeld
        go_wp2
        go_end0
        have hkn := HKN.out
        have hvn := HVN.out
        subst hkn
        subst hvn
        rw [HRV.out]
        exact ⟨_, _, _, _, _, _, rfl, HAD.out.1, HAD.out.2.1, HAD.out.2.2.1, HAD.out.2.2.2.1 _ _ _ HNX.out, HAD.out.2.2.2.1 _ _ _ HVX.out, HAD.out.2.2.2.2.1, HAD.out.2.2.2.2.2⟩
  · have hpb : (((pl : Nat) : Int) == 0) = false := by rw [beq_eq_false_iff_ne]; omega
    have hpi : ¬ ((pl : Nat) : Int) = 0 := by omega
    obtain ⟨r, hr⟩ : ∃ x, x = C4.val v := ⟨_, rfl⟩
    obtain ⟨C5, hC5⟩ : ∃ x, x = C4.get v := ⟨_, rfl⟩
    have G5 : Hid (∀ W, Holds W p q 84 C4 → Calls Tryz.prog 39 #[.pointer (some ⟨p, 0, none⟩), .int .i64 v] W fun e w' => e = .returned (.int .i64 r) ∧ Holds w' p q 84 C5 ∧ Only (· = p) W w') := Lib.hid fun W hW => by rw [hr, hC5]; exact Get_c W p q C4 hW v
    have HRV : Hid (RV = ((ks, [], ((sz : Nat) : Int), ((r : Nat) : Int)), C5)) := Lib.hid (by rw [HRD.out, if_neg hpl0, hr, hC5])
    clear HRD hr hC5 hpl0
    go_upto_region 1 with (fail)
    rw [← hW0]
    clear hW0
    go_upto_region 5 with (first
      | (go_at_call 39; (with_reducible refine (G1.out _ HH.out).mono ?_); rintro ee w2 ⟨rfl, hh, ho⟩; (replace HH := Lib.hid hh); (replace HL := Lib.hid (HL.out.trans (ho.mono fun j hj => Or.inl hj))); clear hh ho; clear i0 i1; (obtain ⟨i0, i1⟩ := (KC.out _ HL.out)))
      | (go_at_call 39; (with_reducible refine (G2.out _ HH.out).mono ?_); rintro ee w2 ⟨rfl, hh, ho⟩; (replace HH := Lib.hid hh); (replace HL := Lib.hid (HL.out.trans (ho.mono fun j hj => Or.inl hj))); clear hh ho; clear i0 i1; (obtain ⟨i0, i1⟩ := (KC.out _ HL.out)))
      | (go_at_call 39; (with_reducible refine (G3.out _ HH.out).mono ?_); rintro ee w2 ⟨rfl, hh, ho⟩; (replace HH := Lib.hid hh); (replace HL := Lib.hid (HL.out.trans (ho.mono fun j hj => Or.inl hj))); clear hh ho; clear i0 i1; (obtain ⟨i0, i1⟩ := (KC.out _ HL.out)))
      | (go_at_call 101; (with_reducible refine (G4.out _ HH.out).mono ?_); rintro ee w4 ⟨KP, kc, rfl, hn, hh, ho⟩; (replace HH := Lib.hid hh); have HNK : Hid (KeyAt w.heap.size w4 (some w4.heap.size) (.slice KP kn kc) ks) := Lib.hid (hn.key (Nat.le_trans (Nat.le_of_lt HZ.out) HL.out.size) (fun j hj => .inr (by cases hj; exact Nat.le_refl _))); (replace HL := Lib.hid (HL.out.trans (ho.mono fun j hj => hj.elim Or.inl fun e => Or.inr (Nat.le_trans HL.out.size e)))); clear hh ho hn))
    obtain ⟨ib, hib⟩ : ∃ x, x = w4.heap.size := ⟨_, rfl⟩
    obtain ⟨w5, hw5⟩ : ∃ x, x = w4.alloc (.cells #[.slice KP kn kc, .slice none 0 0, .int .i64 0, .int .i64 0] 44) := ⟨_, rfl⟩
    have HIB : Hid (Blk w5 ib 44 [.slice KP kn kc, .slice none 0 0, .int .i64 0, .int .i64 0]) := Lib.hid (by rw [hib, hw5]; exact Blk.new w4 44 _)
    have HIP : Hid (p < ib) := Lib.hid (by rw [hib]; exact Nat.lt_of_lt_of_le (Nat.lt_of_lt_of_le HPL.out HO.out.size) HL.out.size)
    have HIG : Hid (W0.heap.size ≤ ib) := Lib.hid (by rw [hib]; exact HL.out.size)
    replace HL : Hid (Only (fun j => j = p ∨ W0.heap.size ≤ j) W0 w5) := Lib.hid (by rw [hw5]; exact HL.out.alloc (fun _ h => .inr h) _)
    replace HH : Hid (Holds w5 p q 84 C4) := Lib.hid (by rw [hw5]; exact HH.out.later ((Only.refl _ _).alloc (fun _ h => h) _))
    replace HNK : Hid (KeyAt w.heap.size w5 (some ib) (.slice KP kn kc) ks) := Lib.hid (by rw [hw5, hib]; exact HNK.out.step ((Only.refl (w4.heap.size ≤ ·) _).alloc (fun _ h => h) _) (fun j _ h1 h2 => absurd h2 (Nat.not_le.2 h1)) (.inl rfl))
    rw [← hw5, ← hib]
    clear hw5 hib i0 i1
    (obtain ⟨b0, b1, b2, b3⟩ := HIB.out.four); have f0 := HIB.out.frozen 0; have f1 := HIB.out.frozen 1; have f2 := HIB.out.frozen 2; have f3 := HIB.out.frozen 3
    go_upto_region 8 with (fail)
    obtain ⟨wy, hwy⟩ : ∃ wy, wy = w5.setCell ⟨ib, 2, none⟩ (.int .i64 (sz : Nat)) := ⟨_, rfl⟩
    have HOS : Hid (Only (· = ib) w5 wy) := Lib.hid (by rw [hwy]; exact (Only.refl (· = ib) _).setCell (p := ⟨ib, 2, none⟩) rfl _)
    replace HIB : Hid (Blk wy ib 44 [.slice KP kn kc, .slice none 0 0, .int .i64 (sz : Nat), .int .i64 0]) := Lib.hid (by rw [hwy]; exact HIB.out.set_ 2 _)
    replace HH : Hid (Holds wy p q 84 C4) := Lib.hid (HH.out.only HOS.out (fun j hj _ e => by have h1 := HNB.out; have h2 := HIG.out; have h3 := HZ.out; rcases hj with hj | hj <;> omega))
    replace HNK := Lib.hid (HNK.out.step HOS.out (fun j _ _ e => by rw [e]) (.inl rfl))
    replace HL : Hid (Only (fun j => j = p ∨ W0.heap.size ≤ j) W0 wy) := Lib.hid (HL.out.trans (HOS.out.mono fun j hj => Or.inr (by rw [hj]; exact HIG.out)))
    rw [← hwy]
    clear hwy
    clear b0 b1 b2 b3 f0 f1 f2 f3
    replace HL := Lib.hid HL.out.drew
    replace HH : Hid (Holds wy.drew p q 84 _) := Lib.hid (HH.out.drewN 1)
    replace HIB : Hid (Blk wy.drew ib 44 [.slice KP kn kc, .slice none 0 0, .int .i64 (sz : Nat), .int .i64 0]) := Lib.hid HIB.out.drew
    replace HNK : Hid (KeyAt w.heap.size wy.drew (some ib) (.slice KP kn kc) ks) := Lib.hid (HNK.out.step (F := fun _ => False) ((Only.refl _ _).drew) (fun _ _ _ h => h.elim) (.inl rfl))
    try clear i0 i1
    refine wp_region_list (B := [false, false, false, false, false, false, false, false]) (S := (fun W => W.cell? ⟨w.heap.size, 0, none⟩ = some (.pointer (some ⟨p, 0, none⟩)) ∧ W.cell? ⟨w.heap.size, 1, none⟩ = some (.int .i64 g))) (by kernel_rfl) (by kernel_rfl) (by kernel_rfl) (KC.out _ HL.out) (fun hsel hHeld => ?_)
    obtain ⟨wz, hwz⟩ : ∃ wz, wz = wy.drew := ⟨_, rfl⟩
    rw [← hwz] at HL HH HIB HNK hHeld
    rw [← hwz]
    clear hwz
    refine oneA 0 31 hsel (h := ?_)
    simp only [Act.put, List.setIfInBounds_toArray, List.set_cons_zero, List.set_cons_succ]
    refine oneA 1 32 hsel (h := ?_)
    simp only [Act.put, List.setIfInBounds_toArray, List.set_cons_zero, List.set_cons_succ]
    refine oneA 2 33 hsel (h := ?_)
    simp only [Act.put, List.setIfInBounds_toArray, List.set_cons_zero, List.set_cons_succ]
    refine oneA 3 34 hsel (h := ?_)
    simp only [Act.put, List.setIfInBounds_toArray, List.set_cons_zero, List.set_cons_succ]
    refine wpAnyL_ready (rs := [4]) (by kernel_rfl) (by kernel_rfl) (by simp) ?_
    refine AllReadyL.cons (o := ?_) ?_ (fun K hK => ?_) AllReadyL.nil
    case refine_2 => (simp only [List.getElem?_cons_succ, List.getElem?_cons_zero]; rfl)
    go_simp
    (go_at_call 41; (with_reducible refine (HIW.out _ HL.out).mono ?_); rintro ee w7 ⟨rfl, ho⟩; (replace HH := Lib.hid (HH.out.later ho)); (replace HIB := Lib.hid (HIB.out.later ho)); (replace HNK := Lib.hid (HNK.out.step ho (fun j _ h1 h2 => absurd h2 (Nat.not_le.2 h1)) (.inl rfl))); (replace HL := Lib.hid (HL.out.trans (ho.mono fun j hj => Or.inr (Nat.le_trans HL.out.size hj)))); clear ho)
    go_wp2_with (fail)
    clear hHeld
    refine hK.out _ _ (KC.out _ HL.out) (fun hHeld => ?_)
    clear hK K
    try simp only [List.set_cons_zero, List.set_cons_succ]
    refine wpAnyL_ready (rs := [5]) (by kernel_rfl) (by kernel_rfl) (by simp) ?_
    refine AllReadyL.cons (o := ?_) ?_ (fun K hK => ?_) AllReadyL.nil
    case refine_2 => (simp only [List.getElem?_cons_succ, List.getElem?_cons_zero]; rfl)
    go_simp
    (go_at_call 39; (with_reducible refine (G5.out _ HH.out).mono ?_); rintro ee w8 ⟨rfl, hh, ho⟩; (replace HH := Lib.hid hh); (replace HIB := Lib.hid (HIB.out.only ho (by have := HIP.out; omega))); (replace HNK := Lib.hid (HNK.out.step ho (fun j hj h1 e => by have := HPL.out; omega) (.inl rfl))); (replace HL := Lib.hid (HL.out.trans (ho.mono fun j hj => Or.inl hj))); clear hh ho; (obtain ⟨b0, b1, b2, b3⟩ := HIB.out.four); have f0 := HIB.out.frozen 0; have f1 := HIB.out.frozen 1; have f2 := HIB.out.frozen 2; have f3 := HIB.out.frozen 3)
    go_wp2_with (fail)
    clear hHeld
    refine hK.out _ _ (KC.out _ HL.out) (fun hHeld => ?_)
    clear hK K
    try simp only [List.set_cons_zero, List.set_cons_succ]
    refine oneA 6 37 hsel (h := ?_)
    simp only [Act.put, List.setIfInBounds_toArray, List.set_cons_zero, List.set_cons_succ]
    refine wpAnyL_ready (rs := [7]) (by kernel_rfl) (by kernel_rfl) (by simp) ?_
    refine AllReadyL.cons (o := ?_) ?_ (fun K hK => ?_) AllReadyL.nil
    case refine_2 => (simp only [List.getElem?_cons_succ, List.getElem?_cons_zero]; rfl)
    go_simp
    clear hHeld
    refine hK.out _ _ (KC.out _ (HL.out.setCell (p := ⟨ib, 3, none⟩) (.inr HIG.out) _)) (fun hHeld => ?_)
    clear hK K
    try simp only [List.set_cons_zero, List.set_cons_succ]
    refine wpAnyL_done (by kernel_rfl) (by kernel_rfl) ?_ _
    clear hsel hHeld
    go_wp2_with (fail)
    obtain ⟨wv, hwv⟩ : ∃ wv, wv = w8.setCell ⟨ib, 3, none⟩ (.int .i64 (r : Nat)) := ⟨_, rfl⟩
    have HOS : Hid (Only (· = ib) w8 wv) := Lib.hid (by rw [hwv]; exact (Only.refl (· = ib) _).setCell (p := ⟨ib, 3, none⟩) rfl _)
    replace HIB : Hid (Blk wv ib 44 [.slice KP kn kc, .slice none 0 0, .int .i64 (sz : Nat), .int .i64 (r : Nat)]) := Lib.hid (by rw [hwv]; exact HIB.out.set_ 3 _)
    replace HH : Hid (Holds wv p q 84 C5) := Lib.hid (HH.out.only HOS.out (fun j hj _ e => by have h1 := HNB.out; have h2 := HIG.out; have h3 := HZ.out; rcases hj with hj | hj <;> omega))
    replace HNK := Lib.hid (HNK.out.step HOS.out (fun j _ _ e => by rw [e]) (.inl rfl))
    replace HL : Hid (Only (fun j => j = p ∨ W0.heap.size ≤ j) W0 wv) := Lib.hid (HL.out.trans (HOS.out.mono fun j hj => Or.inr (by rw [hj]; exact HIG.out)))
    rw [← hwv]
    clear hwv
    obtain ⟨wx, hwx⟩ : ∃ wx, wx = wv.drew := ⟨_, rfl⟩
    have HHX : Hid (Holds wx p q 84 _) := Lib.hid (by rw [hwx]; exact HH.out.drewN 1)
    have HLX0 : Hid (Only (fun j => j = p ∨ W0.heap.size ≤ j) W0 wx) := Lib.hid (by rw [hwx]; exact HL.out.drew)
    have HLX := Lib.hid (HF.out _ HLX0.out)
    have HBX := Lib.hid (HBN.out _ HLX0.out)
    have HRX := Lib.hid (HRW.out _ HLX0.out)
    have HIX : Hid (Blk wx ib 44 [.slice KP kn kc, .slice none 0 0, .int .i64 (sz : Nat), .int .i64 (r : Nat)]) := Lib.hid (by rw [hwx]; exact HIB.out.drew)
    have HNX : Hid (KeyAt w.heap.size wx (some ib) (.slice KP kn kc) ks) := Lib.hid (by rw [hwx]; exact HNK.out.step (F := fun _ => False) ((Only.refl _ _).drew) (fun _ _ _ h => h.elim) (.inl rfl))
    have HVX : Hid (KeyAt w.heap.size wx (some ib) (.slice none 0 0) []) := Lib.hid (by rw [hwx]; exact ⟨Src.nil_ _, fun ad n c e => by cases e⟩)
    have HBA : Hid (Blk (wx.alloc (.cells #[.slice KP kn kc, .slice none 0 0, .int .i64 (sz : Nat), .int .i64 (r : Nat)] 44)) wx.heap.size 44 [.slice KP kn kc, .slice none 0 0, .int .i64 (sz : Nat), .int .i64 (r : Nat)]) := Lib.hid (Blk.new wx 44 _)
    have HBY := Lib.hid (HBX.out.alloc (.cells #[.slice KP kn kc, .slice none 0 0, .int .i64 (sz : Nat), .int .i64 (r : Nat)] 44))
    obtain ⟨o0, o1, o2⟩ := HBX.out.tri
    obtain ⟨u0, u1, u2⟩ := HBY.out.tri
    obtain ⟨x0, x1, x2, x3⟩ := HIX.out.four
    try clear i0 i1
    try clear f0 f1
    try clear b0 b1
    try clear f2 f3
    try clear b2 b3
    refine wp_region_list (B := [false, false, false, false, false, false, false, false, false, false, false]) (S := (fun _ => True)) (by kernel_rfl) (by kernel_rfl) (by kernel_rfl) trivial (fun hsel hHeld => ?_)
    rw [← hwx]
    clear hwx
    refine oneA 0 38 hsel (h := ?_)
    simp only [Act.put, List.setIfInBounds_toArray, List.set_cons_zero, List.set_cons_succ]
    refine oneA 1 39 hsel (h := ?_)
    simp only [Act.put, List.setIfInBounds_toArray, List.set_cons_zero, List.set_cons_succ]
    refine oneA 2 40 hsel (h := ?_)
    simp only [Act.put, List.setIfInBounds_toArray, List.set_cons_zero, List.set_cons_succ]
    refine oneA 3 41 hsel (h := ?_)
    simp only [Act.put, List.setIfInBounds_toArray, List.set_cons_zero, List.set_cons_succ]
    refine wpAnyL_ready (rs := [4, 5]) (by kernel_rfl) (by kernel_rfl) (by simp) ?_
    refine AllReadyL.cons (o := ?_) ?_ (fun K hK => ?_) (AllReadyL.cons (o := ?_) ?_ (fun K hK => ?_) AllReadyL.nil)
    case refine_2 => (simp only [List.getElem?_cons_succ, List.getElem?_cons_zero]; rfl)
    case refine_5 => (simp only [List.getElem?_cons_succ, List.getElem?_cons_zero]; rfl)
    case refine_3 =>
      go_simp
      clear hHeld
      refine hK.out _ _ trivial (fun hHeld => ?_)
      clear hK K
      try simp only [List.set_cons_zero, List.set_cons_succ]
      refine wpAnyL_ready (rs := [5]) (by kernel_rfl) (by kernel_rfl) (by simp) ?_
      refine AllReadyL.cons (o := ?_) ?_ (fun K hK => ?_) AllReadyL.nil
      case refine_2 => (simp only [List.getElem?_cons_succ, List.getElem?_cons_zero]; rfl)
      go_simp
      clear hHeld
      refine hK.out _ _ trivial (fun hHeld => ?_)
      clear hK K
      try simp only [List.set_cons_zero, List.set_cons_succ]
      refine wpAnyL_ready (rs := [6]) (by kernel_rfl) (by kernel_rfl) (by simp) ?_
      refine AllReadyL.cons (o := ?_) ?_ (fun K hK => ?_) AllReadyL.nil
      case refine_2 => (simp only [List.getElem?_cons_succ, List.getElem?_cons_zero]; rfl)
      go_simp
      clear hHeld
      refine hK.out _ _ trivial (fun hHeld => ?_)
      clear hK K
      try simp only [List.set_cons_zero, List.set_cons_succ]
      refine wpAnyL_ready (rs := [7]) (by kernel_rfl) (by kernel_rfl) (by simp) ?_
      refine AllReadyL.cons (o := ?_) ?_ (fun K hK => ?_) AllReadyL.nil
      case refine_2 => (simp only [List.getElem?_cons_succ, List.getElem?_cons_zero]; rfl)
      rw [if_pos (by kernel_rfl)]
      refine wp_append_at (.tmp 42) (.tmp 44) 25 rfl B 44 i1' zI 4 64 Tryz.underlying25 HI1.out.1 HI1.out.2.1 HI1.out.2.2.1 HI1.out.2.2.2 (by rfl) (by omega) (.slice R k t) k C rfl (World.ownsRow.alloc HRX.out _) ⟨wx.heap.size, 0, none⟩ 1 1 [.slice KP kn kc, .slice none 0 0, .int .i64 (sz : Nat), .int .i64 (r : Nat)] rfl rfl (fun j u hu => by rw [Addr.add_lit, HBA.out.cell, Nat.zero_add]; exact hu) (by simp [Value.oneCell']) (by simp only [maxLen]; omega) (by omega) (by have := HNB.out.2.2.2.2.2; have := HLX.out.size; simp; omega) ?_
      intro v' w' ho' hg' hat'
      obtain ⟨R2, t2, rfl, _⟩ := raw_of_own ho'
      have HAD := Lib.hid (added (i := 1) HHX.out HBX.out HR0.out HRX.out HLX.out HNB.out.1 HNB.out.2.1 HNB.out.2.2.1 HNB.out.2.2.2.1 HNB.out.2.2.2.2.1 HNB.out.2.2.2.2.2 hg' ho' hat')
      have HB2 : Hid (Blk w' bn 28 [.bool lf, .slice R k t, kv]) := Lib.hid ((hg'.block bn (by have := HBX.out.lt; simp; omega) (fun e => by have := World.ownsRow.lt HR0.out bn e.symm; have := HNB.out; omega)).trans (HBX.out.alloc _))
      obtain ⟨y0, y1, y2⟩ := HB2.out.tri
      obtain ⟨g0, g1, g2⟩ := HB2.out.melt3
      clear ho' hg' hat'
      clear hHeld
      refine hK.out _ _ trivial (fun hHeld => ?_)
      clear hK K
      try simp only [Act.put, List.setIfInBounds_toArray, List.set_cons_zero, List.set_cons_succ]
      refine oneA 8 46 hsel (h := ?_)
      simp only [Act.put, List.setIfInBounds_toArray, List.set_cons_zero, List.set_cons_succ]
      refine oneA 9 47 hsel (h := ?_)
      simp only [Act.put, List.setIfInBounds_toArray, List.set_cons_zero, List.set_cons_succ]
      refine wpAnyL_ready (rs := [10]) (by kernel_rfl) (by kernel_rfl) (by simp) ?_
      refine AllReadyL.cons (o := ?_) ?_ (fun K hK => ?_) AllReadyL.nil
      case refine_2 => (simp only [List.getElem?_cons_succ, List.getElem?_cons_zero]; rfl)
      go_simp
      clear hHeld
      refine hK.out _ _ trivial (fun hHeld => ?_)
      clear hK K
      try simp only [List.set_cons_zero, List.set_cons_succ]
      refine wpAnyL_done (by kernel_rfl) (by kernel_rfl) ?_ _
      clear hsel hHeld
      go_wp2
      go_end0
      have hkn := HKN.out
      subst hkn
      rw [HRV.out]
      exact ⟨_, _, _, _, none, 0, rfl, HAD.out.1, HAD.out.2.1, HAD.out.2.2.1, HAD.out.2.2.2.1 _ _ _ HNX.out, HAD.out.2.2.2.1 _ _ _ HVX.out, HAD.out.2.2.2.2.1, HAD.out.2.2.2.2.2⟩
    case refine_6 =>
      go_simp
      clear hHeld
      refine hK.out _ _ trivial (fun hHeld => ?_)
      clear hK K
      try simp only [List.set_cons_zero, List.set_cons_succ]
      refine wpAnyL_ready (rs := [4, 6]) (by kernel_rfl) (by kernel_rfl) (by simp) ?_
      refine AllReadyL.cons (o := ?_) ?_ (fun K hK => ?_) (AllReadyL.cons (o := ?_) ?_ (fun K hK => ?_) AllReadyL.nil)
      case refine_2 => (simp only [List.getElem?_cons_succ, List.getElem?_cons_zero]; rfl)
      case refine_5 => (simp only [List.getElem?_cons_succ, List.getElem?_cons_zero]; rfl)
      case refine_3 =>
        go_simp
        clear hHeld
        refine hK.out _ _ trivial (fun hHeld => ?_)
        clear hK K
        try simp only [List.set_cons_zero, List.set_cons_succ]
        refine wpAnyL_ready (rs := [6]) (by kernel_rfl) (by kernel_rfl) (by simp) ?_
        refine AllReadyL.cons (o := ?_) ?_ (fun K hK => ?_) AllReadyL.nil
        case refine_2 => (simp only [List.getElem?_cons_succ, List.getElem?_cons_zero]; rfl)
        go_simp
        clear hHeld
        refine hK.out _ _ trivial (fun hHeld => ?_)
        clear hK K
        try simp only [List.set_cons_zero, List.set_cons_succ]
        refine wpAnyL_ready (rs := [7]) (by kernel_rfl) (by kernel_rfl) (by simp) ?_
        refine AllReadyL.cons (o := ?_) ?_ (fun K hK => ?_) AllReadyL.nil
        case refine_2 => (simp only [List.getElem?_cons_succ, List.getElem?_cons_zero]; rfl)
        rw [if_pos (by kernel_rfl)]
        refine wp_append_at (.tmp 42) (.tmp 44) 25 rfl B 44 i1' zI 4 64 Tryz.underlying25 HI1.out.1 HI1.out.2.1 HI1.out.2.2.1 HI1.out.2.2.2 (by rfl) (by omega) (.slice R k t) k C rfl (World.ownsRow.alloc HRX.out _) ⟨wx.heap.size, 0, none⟩ 1 1 [.slice KP kn kc, .slice none 0 0, .int .i64 (sz : Nat), .int .i64 (r : Nat)] rfl rfl (fun j u hu => by rw [Addr.add_lit, HBA.out.cell, Nat.zero_add]; exact hu) (by simp [Value.oneCell']) (by simp only [maxLen]; omega) (by omega) (by have := HNB.out.2.2.2.2.2; have := HLX.out.size; simp; omega) ?_
        intro v' w' ho' hg' hat'
        obtain ⟨R2, t2, rfl, _⟩ := raw_of_own ho'
        have HAD := Lib.hid (added (i := 1) HHX.out HBX.out HR0.out HRX.out HLX.out HNB.out.1 HNB.out.2.1 HNB.out.2.2.1 HNB.out.2.2.2.1 HNB.out.2.2.2.2.1 HNB.out.2.2.2.2.2 hg' ho' hat')
        have HB2 : Hid (Blk w' bn 28 [.bool lf, .slice R k t, kv]) := Lib.hid ((hg'.block bn (by have := HBX.out.lt; simp; omega) (fun e => by have := World.ownsRow.lt HR0.out bn e.symm; have := HNB.out; omega)).trans (HBX.out.alloc _))
        obtain ⟨y0, y1, y2⟩ := HB2.out.tri
        obtain ⟨g0, g1, g2⟩ := HB2.out.melt3
        clear ho' hg' hat'
        clear hHeld
        refine hK.out _ _ trivial (fun hHeld => ?_)
        clear hK K
        try simp only [Act.put, List.setIfInBounds_toArray, List.set_cons_zero, List.set_cons_succ]
        refine oneA 8 46 hsel (h := ?_)
        simp only [Act.put, List.setIfInBounds_toArray, List.set_cons_zero, List.set_cons_succ]
        refine oneA 9 47 hsel (h := ?_)
        simp only [Act.put, List.setIfInBounds_toArray, List.set_cons_zero, List.set_cons_succ]
        refine wpAnyL_ready (rs := [10]) (by kernel_rfl) (by kernel_rfl) (by simp) ?_
        refine AllReadyL.cons (o := ?_) ?_ (fun K hK => ?_) AllReadyL.nil
        case refine_2 => (simp only [List.getElem?_cons_succ, List.getElem?_cons_zero]; rfl)
        go_simp
        clear hHeld
        refine hK.out _ _ trivial (fun hHeld => ?_)
        clear hK K
        try simp only [List.set_cons_zero, List.set_cons_succ]
        refine wpAnyL_done (by kernel_rfl) (by kernel_rfl) ?_ _
        clear hsel hHeld
        go_wp2
        go_end0
        have hkn := HKN.out
        subst hkn
        rw [HRV.out]
        exact ⟨_, _, _, _, none, 0, rfl, HAD.out.1, HAD.out.2.1, HAD.out.2.2.1, HAD.out.2.2.2.1 _ _ _ HNX.out, HAD.out.2.2.2.1 _ _ _ HVX.out, HAD.out.2.2.2.2.1, HAD.out.2.2.2.2.2⟩
      case refine_6 =>
        go_simp
        clear hHeld
        refine hK.out _ _ trivial (fun hHeld => ?_)
        clear hK K
        try simp only [List.set_cons_zero, List.set_cons_succ]
        refine wpAnyL_ready (rs := [4]) (by kernel_rfl) (by kernel_rfl) (by simp) ?_
        refine AllReadyL.cons (o := ?_) ?_ (fun K hK => ?_) AllReadyL.nil
        case refine_2 => (simp only [List.getElem?_cons_succ, List.getElem?_cons_zero]; rfl)
        go_simp
        clear hHeld
        refine hK.out _ _ trivial (fun hHeld => ?_)
        clear hK K
        try simp only [List.set_cons_zero, List.set_cons_succ]
        refine wpAnyL_ready (rs := [7]) (by kernel_rfl) (by kernel_rfl) (by simp) ?_
        refine AllReadyL.cons (o := ?_) ?_ (fun K hK => ?_) AllReadyL.nil
        case refine_2 => (simp only [List.getElem?_cons_succ, List.getElem?_cons_zero]; rfl)
        rw [if_pos (by kernel_rfl)]
        refine wp_append_at (.tmp 42) (.tmp 44) 25 rfl B 44 i1' zI 4 64 Tryz.underlying25 HI1.out.1 HI1.out.2.1 HI1.out.2.2.1 HI1.out.2.2.2 (by rfl) (by omega) (.slice R k t) k C rfl (World.ownsRow.alloc HRX.out _) ⟨wx.heap.size, 0, none⟩ 1 1 [.slice KP kn kc, .slice none 0 0, .int .i64 (sz : Nat), .int .i64 (r : Nat)] rfl rfl (fun j u hu => by rw [Addr.add_lit, HBA.out.cell, Nat.zero_add]; exact hu) (by simp [Value.oneCell']) (by simp only [maxLen]; omega) (by omega) (by have := HNB.out.2.2.2.2.2; have := HLX.out.size; simp; omega) ?_
        intro v' w' ho' hg' hat'
        obtain ⟨R2, t2, rfl, _⟩ := raw_of_own ho'
        have HAD := Lib.hid (added (i := 1) HHX.out HBX.out HR0.out HRX.out HLX.out HNB.out.1 HNB.out.2.1 HNB.out.2.2.1 HNB.out.2.2.2.1 HNB.out.2.2.2.2.1 HNB.out.2.2.2.2.2 hg' ho' hat')
        have HB2 : Hid (Blk w' bn 28 [.bool lf, .slice R k t, kv]) := Lib.hid ((hg'.block bn (by have := HBX.out.lt; simp; omega) (fun e => by have := World.ownsRow.lt HR0.out bn e.symm; have := HNB.out; omega)).trans (HBX.out.alloc _))
        obtain ⟨y0, y1, y2⟩ := HB2.out.tri
        obtain ⟨g0, g1, g2⟩ := HB2.out.melt3
        clear ho' hg' hat'
        clear hHeld
        refine hK.out _ _ trivial (fun hHeld => ?_)
        clear hK K
        try simp only [Act.put, List.setIfInBounds_toArray, List.set_cons_zero, List.set_cons_succ]
        refine oneA 8 46 hsel (h := ?_)
        simp only [Act.put, List.setIfInBounds_toArray, List.set_cons_zero, List.set_cons_succ]
        refine oneA 9 47 hsel (h := ?_)
        simp only [Act.put, List.setIfInBounds_toArray, List.set_cons_zero, List.set_cons_succ]
        refine wpAnyL_ready (rs := [10]) (by kernel_rfl) (by kernel_rfl) (by simp) ?_
        refine AllReadyL.cons (o := ?_) ?_ (fun K hK => ?_) AllReadyL.nil
        case refine_2 => (simp only [List.getElem?_cons_succ, List.getElem?_cons_zero]; rfl)
        go_simp
        clear hHeld
        refine hK.out _ _ trivial (fun hHeld => ?_)
        clear hK K
        try simp only [List.set_cons_zero, List.set_cons_succ]
        refine wpAnyL_done (by kernel_rfl) (by kernel_rfl) ?_ _
        clear hsel hHeld
        go_wp2
        go_end0
        have hkn := HKN.out
        subst hkn
        rw [HRV.out]
        exact ⟨_, _, _, _, none, 0, rfl, HAD.out.1, HAD.out.2.1, HAD.out.2.2.1, HAD.out.2.2.2.1 _ _ _ HNX.out, HAD.out.2.2.2.1 _ _ _ HVX.out, HAD.out.2.2.2.2.1, HAD.out.2.2.2.2.2⟩

/-- It goes behind what there is. -/
def AddsK (w : World) (p q bn B : Nat) (c' : Cur) (lf : Bool) (kv : Value) (R : Option Addr) (k t : Nat) (C : List Value) (y : Kd) (e : Ending) (w' : World) : Prop :=
  ∃ (R' : Option Addr) (t' : Nat) (P : Option Addr) (pc : Nat), e = .returned (.tuple #[]) ∧ Holds w' p q 84 c' ∧ Blk w' bn 28 [.bool lf, kv, .slice R' (k + 1) t'] ∧ w'.ownsRow B 67 2 (.slice R' (k + 1) t') (k + 1) (C ++ [.slice P y.1.length pc, .int .i64 y.2]) ∧
    KeyAt B w' (Value.slice R' (k + 1) t').ownBlock (.slice P y.1.length pc) y.1 ∧ ((Value.slice R' (k + 1) t').ownBlock = (Value.slice R k t).ownBlock ∨ ∃ g, (Value.slice R' (k + 1) t').ownBlock = some g ∧ w.heap.size ≤ g) ∧
    Only (fun j => j = p ∨ j = bn ∨ (Value.slice R k t).ownBlock = some j ∨ w.heap.size ≤ j) w w'
set_option maxRecDepth 100000 in
set_option maxHeartbeats 12800000 in
theorem addK_c (w : World) (p q bn B : Nat) (c : Cur) (g : Int) (lf : Bool) (kv : Value) (R : Option Addr) (k t : Nat) (C : List Value)
    (h : Holds w p q 84 c) (hb : Blk w bn 28 [.bool lf, kv, .slice R k t]) (hr : w.ownsRow B 67 2 (.slice R k t) k C) (hp : p < B) (hq : q < B) (hbn : bn < B) (hpn : bn ≠ p) (hqn : bn ≠ q) (hB : B ≤ w.heap.size) (hk : k ≤ 100000) (hG : ∀ W, Only (fun j => j = p ∨ w.heap.size ≤ j) w W → Gens W) :
    Calls Tryz.prog 81 #[.agg #[.pointer (some ⟨p, 0, none⟩), .int .i64 g], .pointer (some ⟨bn, 0, none⟩)] w (AddsK w p q bn B (rdK g c).2 lf kv R k t C (rdK g c).1) := by
  obtain ⟨i1', hi0, hz0, hz1, hz2⟩ := info_parts info_K
  have HI1 := Lib.hid (And.intro hi0 (And.intro hz0 (And.intro hz1 hz2)))
  clear hi0 hz0 hz1 hz2
  obtain ⟨W0, hW0⟩ : ∃ W0, W0 = w.alloc (.cells #[.pointer (some ⟨p, 0, none⟩), .int .i64 g] 93) := ⟨_, rfl⟩
  have HO : Hid (Only (w.heap.size ≤ ·) w W0) := Lib.hid (by rw [hW0]; exact (Only.refl _ w).alloc (fun _ h => h) _)
  have HI : Hid (Blk W0 w.heap.size 93 [.pointer (some ⟨p, 0, none⟩), .int .i64 g]) := Lib.hid (by rw [hW0]; exact Blk.new w 93 _)
  have HZ : Hid (w.heap.size < W0.heap.size) := Lib.hid HI.out.lt
  have HPL : Hid (p < w.heap.size) := Lib.hid h.lt
  have HH := Lib.hid (h.later HO.out)
  have HL : Hid (Only (fun j => j = p ∨ W0.heap.size ≤ j) W0 W0) := Lib.hid (Only.refl _ _)
  have HF : Hid (∀ W, Only (fun j => j = p ∨ W0.heap.size ≤ j) W0 W → Only (fun j => j = p ∨ w.heap.size ≤ j) w W) := Lib.hid fun W hW => (HO.out.mono fun j hj => Or.inr hj).trans (hW.mono fun j hj => hj.elim Or.inl fun e => Or.inr (by have := HZ.out; omega))
  have KC : Hid (∀ W, Only (fun j => j = p ∨ W0.heap.size ≤ j) W0 W → W.cell? ⟨w.heap.size, 0, none⟩ = some (.pointer (some ⟨p, 0, none⟩)) ∧ W.cell? ⟨w.heap.size, 1, none⟩ = some (.int .i64 g)) := Lib.hid fun W hW => (HI.out.only hW (by have := HZ.out; have := HPL.out; rintro (e | e) <;> omega)).pair
  have HBN : Hid (∀ W, Only (fun j => j = p ∨ W0.heap.size ≤ j) W0 W → Blk W bn 28 [.bool lf, kv, .slice R k t]) := Lib.hid fun W hW => hb.only (HF.out W hW) (by have := hb.lt; rintro (e | e) <;> omega)
  have HR0 := Lib.hid hr
  have HRW : Hid (∀ W, Only (fun j => j = p ∨ W0.heap.size ≤ j) W0 W → W.ownsRow B 67 2 (.slice R k t) k C) := Lib.hid fun W hW => own_on hr (HF.out W hW) fun j hj hf => by have := World.ownsRow.lt hr j hj; rcases hf with hf | hf <;> omega
  have HIW : Hid (∀ W, Only (fun j => j = p ∨ W0.heap.size ≤ j) W0 W → Calls Tryz.prog 41 #[.int .i64 g] W (Told W (.int .i64 (tr g 4 8 8)))) := Lib.hid fun W hW => IdWidth_c W g (hG W (HF.out W hW))
  have HNB := Lib.hid (And.intro hp (And.intro hq (And.intro hbn (And.intro hpn (And.intro hqn hB)))))
  obtain ⟨l, hl⟩ : ∃ l, l = c.val 1 := ⟨_, rfl⟩
  obtain ⟨C3, hC3⟩ : ∃ x, x = c.get 1 := ⟨_, rfl⟩
  obtain ⟨ks, hks⟩ : ∃ x, x = C3.got l := ⟨_, rfl⟩
  obtain ⟨C4, hC4⟩ : ∃ x, x = C3.take l := ⟨_, rfl⟩
  have G1 : Hid (∀ W, Holds W p q 84 c → Calls Tryz.prog 39 #[.pointer (some ⟨p, 0, none⟩), .int .i64 1] W fun e w' => e = .returned (.int .i64 l) ∧ Holds w' p q 84 C3 ∧ Only (· = p) W w') := Lib.hid fun W hW => by rw [hl, hC3]; exact Get_c W p q c hW 1
  obtain ⟨kn, hkn⟩ : ∃ x, x = ks.length := ⟨_, rfl⟩
  have G4 : Hid (∀ W, Holds W p q 84 C3 → Calls Tryz.prog 101 #[.pointer (some ⟨p, 0, none⟩), .int .i64 l] W fun e w' => ∃ P pc, e = .returned (.slice P kn pc) ∧ New w' W.heap.size (.slice P kn pc) ks ∧ Holds w' p q 84 C4 ∧ Only (fun j => j = p ∨ W.heap.size ≤ j) W w') := Lib.hid fun W hW => by rw [hkn, hks, hC4]; exact RBytes_n W p q C3 hW l
  have HKN := Lib.hid hkn
  have HRD : Hid (rdK g c = ((ks, ((C4.val (tr g 4 8 8) : Nat) : Int)), C4.get (tr g 4 8 8))) := Lib.hid (by rw [hks, hC4, hC3, hl]; rfl)
  obtain ⟨RV, hRV⟩ : ∃ x, x = rdK g c := ⟨_, rfl⟩
  rw [← hRV] at HRD ⊢
  obtain ⟨v, hv⟩ : ∃ v, v = tr g 4 8 8 := ⟨_, rfl⟩
  rw [← hv] at HIW HRD
  clear h hb hr hp hq hbn hpn hqn hB hG hRV hv hl hC3 hks hC4 hkn
  obtain ⟨i0, i1⟩ := KC.out _ HL.out
  go_enter Tryz.func81, Tryz.ntmps81
  · obtain ⟨r, hr⟩ : ∃ x, x = C4.val v := ⟨_, rfl⟩
    obtain ⟨C5, hC5⟩ : ∃ x, x = C4.get v := ⟨_, rfl⟩
    have G5 : Hid (∀ W, Holds W p q 84 C4 → Calls Tryz.prog 39 #[.pointer (some ⟨p, 0, none⟩), .int .i64 v] W fun e w' => e = .returned (.int .i64 r) ∧ Holds w' p q 84 C5 ∧ Only (· = p) W w') := Lib.hid fun W hW => by rw [hr, hC5]; exact Get_c W p q C4 hW v
    have HRV : Hid (RV = ((ks, ((r : Nat) : Int)), C5)) := Lib.hid (by rw [HRD.out, hr, hC5])
    clear HRD hr hC5
    go_upto_region 1 with (fail)
    rw [← hW0]
    clear hW0
    go_upto_region 3 with (first
      | (go_at_call 39; (with_reducible refine (G1.out _ HH.out).mono ?_); rintro ee w2 ⟨rfl, hh, ho⟩; (replace HH := Lib.hid hh); (replace HL := Lib.hid (HL.out.trans (ho.mono fun j hj => Or.inl hj))); clear hh ho; clear i0 i1; (obtain ⟨i0, i1⟩ := (KC.out _ HL.out)))
      | (go_at_call 101; (with_reducible refine (G4.out _ HH.out).mono ?_); rintro ee w4 ⟨KP, kc, rfl, hn, hh, ho⟩; (replace HH := Lib.hid hh); have HNK : Hid (KeyAt w.heap.size w4 (some w4.heap.size) (.slice KP kn kc) ks) := Lib.hid (hn.key (Nat.le_trans (Nat.le_of_lt HZ.out) HL.out.size) (fun j hj => .inr (by cases hj; exact Nat.le_refl _))); (replace HL := Lib.hid (HL.out.trans (ho.mono fun j hj => hj.elim Or.inl fun e => Or.inr (Nat.le_trans HL.out.size e)))); clear hh ho hn))
    obtain ⟨ib, hib⟩ : ∃ x, x = w4.heap.size := ⟨_, rfl⟩
    obtain ⟨w5, hw5⟩ : ∃ x, x = w4.alloc (.cells #[.slice KP kn kc, .int .i64 0] 67) := ⟨_, rfl⟩
    have HIB : Hid (Blk w5 ib 67 [.slice KP kn kc, .int .i64 0]) := Lib.hid (by rw [hib, hw5]; exact Blk.new w4 67 _)
    have HIP : Hid (p < ib) := Lib.hid (by rw [hib]; exact Nat.lt_of_lt_of_le (Nat.lt_of_lt_of_le HPL.out HO.out.size) HL.out.size)
    have HIG : Hid (W0.heap.size ≤ ib) := Lib.hid (by rw [hib]; exact HL.out.size)
    replace HL : Hid (Only (fun j => j = p ∨ W0.heap.size ≤ j) W0 w5) := Lib.hid (by rw [hw5]; exact HL.out.alloc (fun _ h => .inr h) _)
    replace HH : Hid (Holds w5 p q 84 C4) := Lib.hid (by rw [hw5]; exact HH.out.later ((Only.refl _ _).alloc (fun _ h => h) _))
    replace HNK : Hid (KeyAt w.heap.size w5 (some ib) (.slice KP kn kc) ks) := Lib.hid (by rw [hw5, hib]; exact HNK.out.step ((Only.refl (w4.heap.size ≤ ·) _).alloc (fun _ h => h) _) (fun j _ h1 h2 => absurd h2 (Nat.not_le.2 h1)) (.inl rfl))
    rw [← hw5, ← hib]
    clear hw5 hib i0 i1

    replace HL := Lib.hid HL.out.drew
    replace HH : Hid (Holds w5.drew p q 84 _) := Lib.hid (HH.out.drewN 1)
    replace HIB : Hid (Blk w5.drew ib 67 [.slice KP kn kc, .int .i64 0]) := Lib.hid HIB.out.drew
    replace HNK : Hid (KeyAt w.heap.size w5.drew (some ib) (.slice KP kn kc) ks) := Lib.hid (HNK.out.step (F := fun _ => False) ((Only.refl _ _).drew) (fun _ _ _ h => h.elim) (.inl rfl))
    try clear i0 i1
    refine wp_region_list (B := [false, false, false, false, false, false, false, false]) (S := (fun W => W.cell? ⟨w.heap.size, 0, none⟩ = some (.pointer (some ⟨p, 0, none⟩)) ∧ W.cell? ⟨w.heap.size, 1, none⟩ = some (.int .i64 g))) (by kernel_rfl) (by kernel_rfl) (by kernel_rfl) (KC.out _ HL.out) (fun hsel hHeld => ?_)
    obtain ⟨wz, hwz⟩ : ∃ wz, wz = w5.drew := ⟨_, rfl⟩
    rw [← hwz] at HL HH HIB HNK hHeld
    rw [← hwz]
    clear hwz
    refine oneA 0 14 hsel (h := ?_)
    simp only [Act.put, List.setIfInBounds_toArray, List.set_cons_zero, List.set_cons_succ]
    refine oneA 1 15 hsel (h := ?_)
    simp only [Act.put, List.setIfInBounds_toArray, List.set_cons_zero, List.set_cons_succ]
    refine oneA 2 16 hsel (h := ?_)
    simp only [Act.put, List.setIfInBounds_toArray, List.set_cons_zero, List.set_cons_succ]
    refine oneA 3 17 hsel (h := ?_)
    simp only [Act.put, List.setIfInBounds_toArray, List.set_cons_zero, List.set_cons_succ]
    refine wpAnyL_ready (rs := [4]) (by kernel_rfl) (by kernel_rfl) (by simp) ?_
    refine AllReadyL.cons (o := ?_) ?_ (fun K hK => ?_) AllReadyL.nil
    case refine_2 => (simp only [List.getElem?_cons_succ, List.getElem?_cons_zero]; rfl)
    go_simp
    (go_at_call 41; (with_reducible refine (HIW.out _ HL.out).mono ?_); rintro ee w7 ⟨rfl, ho⟩; (replace HH := Lib.hid (HH.out.later ho)); (replace HIB := Lib.hid (HIB.out.later ho)); (replace HNK := Lib.hid (HNK.out.step ho (fun j _ h1 h2 => absurd h2 (Nat.not_le.2 h1)) (.inl rfl))); (replace HL := Lib.hid (HL.out.trans (ho.mono fun j hj => Or.inr (Nat.le_trans HL.out.size hj)))); clear ho)
    go_wp2_with (fail)
    clear hHeld
    refine hK.out _ _ (KC.out _ HL.out) (fun hHeld => ?_)
    clear hK K
    try simp only [List.set_cons_zero, List.set_cons_succ]
    refine wpAnyL_ready (rs := [5]) (by kernel_rfl) (by kernel_rfl) (by simp) ?_
    refine AllReadyL.cons (o := ?_) ?_ (fun K hK => ?_) AllReadyL.nil
    case refine_2 => (simp only [List.getElem?_cons_succ, List.getElem?_cons_zero]; rfl)
    go_simp
    (go_at_call 39; (with_reducible refine (G5.out _ HH.out).mono ?_); rintro ee w8 ⟨rfl, hh, ho⟩; (replace HH := Lib.hid hh); (replace HIB := Lib.hid (HIB.out.only ho (by have := HIP.out; omega))); (replace HNK := Lib.hid (HNK.out.step ho (fun j hj h1 e => by have := HPL.out; omega) (.inl rfl))); (replace HL := Lib.hid (HL.out.trans (ho.mono fun j hj => Or.inl hj))); clear hh ho; (obtain ⟨b0, b1⟩ := HIB.out.pair); have f0 := HIB.out.frozen 0; have f1 := HIB.out.frozen 1)
    go_wp2_with (fail)
    clear hHeld
    refine hK.out _ _ (KC.out _ HL.out) (fun hHeld => ?_)
    clear hK K
    try simp only [List.set_cons_zero, List.set_cons_succ]
    refine oneA 6 20 hsel (h := ?_)
    simp only [Act.put, List.setIfInBounds_toArray, List.set_cons_zero, List.set_cons_succ]
    refine wpAnyL_ready (rs := [7]) (by kernel_rfl) (by kernel_rfl) (by simp) ?_
    refine AllReadyL.cons (o := ?_) ?_ (fun K hK => ?_) AllReadyL.nil
    case refine_2 => (simp only [List.getElem?_cons_succ, List.getElem?_cons_zero]; rfl)
    go_simp
    clear hHeld
    refine hK.out _ _ (KC.out _ (HL.out.setCell (p := ⟨ib, 1, none⟩) (.inr HIG.out) _)) (fun hHeld => ?_)
    clear hK K
    try simp only [List.set_cons_zero, List.set_cons_succ]
    refine wpAnyL_done (by kernel_rfl) (by kernel_rfl) ?_ _
    clear hsel hHeld
    go_wp2_with (fail)
    obtain ⟨wv, hwv⟩ : ∃ wv, wv = w8.setCell ⟨ib, 1, none⟩ (.int .i64 (r : Nat)) := ⟨_, rfl⟩
    have HOS : Hid (Only (· = ib) w8 wv) := Lib.hid (by rw [hwv]; exact (Only.refl (· = ib) _).setCell (p := ⟨ib, 1, none⟩) rfl _)
    replace HIB : Hid (Blk wv ib 67 [.slice KP kn kc, .int .i64 (r : Nat)]) := Lib.hid (by rw [hwv]; exact HIB.out.set_ 1 _)
    replace HH : Hid (Holds wv p q 84 C5) := Lib.hid (HH.out.only HOS.out (fun j hj _ e => by have h1 := HNB.out; have h2 := HIG.out; have h3 := HZ.out; rcases hj with hj | hj <;> omega))
    replace HNK := Lib.hid (HNK.out.step HOS.out (fun j _ _ e => by rw [e]) (.inl rfl))
    replace HL : Hid (Only (fun j => j = p ∨ W0.heap.size ≤ j) W0 wv) := Lib.hid (HL.out.trans (HOS.out.mono fun j hj => Or.inr (by rw [hj]; exact HIG.out)))
    rw [← hwv]
    clear hwv
    obtain ⟨wx, hwx⟩ : ∃ wx, wx = wv.drew := ⟨_, rfl⟩
    have HHX : Hid (Holds wx p q 84 _) := Lib.hid (by rw [hwx]; exact HH.out.drewN 1)
    have HLX0 : Hid (Only (fun j => j = p ∨ W0.heap.size ≤ j) W0 wx) := Lib.hid (by rw [hwx]; exact HL.out.drew)
    have HLX := Lib.hid (HF.out _ HLX0.out)
    have HBX := Lib.hid (HBN.out _ HLX0.out)
    have HRX := Lib.hid (HRW.out _ HLX0.out)
    have HIX : Hid (Blk wx ib 67 [.slice KP kn kc, .int .i64 (r : Nat)]) := Lib.hid (by rw [hwx]; exact HIB.out.drew)
    have HNX : Hid (KeyAt w.heap.size wx (some ib) (.slice KP kn kc) ks) := Lib.hid (by rw [hwx]; exact HNK.out.step (F := fun _ => False) ((Only.refl _ _).drew) (fun _ _ _ h => h.elim) (.inl rfl))
    have HBA : Hid (Blk (wx.alloc (.cells #[.slice KP kn kc, .int .i64 (r : Nat)] 67)) wx.heap.size 67 [.slice KP kn kc, .int .i64 (r : Nat)]) := Lib.hid (Blk.new wx 67 _)
    have HBY := Lib.hid (HBX.out.alloc (.cells #[.slice KP kn kc, .int .i64 (r : Nat)] 67))
    obtain ⟨o0, o1, o2⟩ := HBX.out.tri
    obtain ⟨u0, u1, u2⟩ := HBY.out.tri
    obtain ⟨x0, x1⟩ := HIX.out.pair
    try clear i0 i1
    try clear f0 f1
    try clear b0 b1
    refine wp_region_list (B := [false, false, false, false, false, false, false, false, false, false, false]) (S := (fun _ => True)) (by kernel_rfl) (by kernel_rfl) (by kernel_rfl) trivial (fun hsel hHeld => ?_)
    rw [← hwx]
    clear hwx
    refine oneA 0 21 hsel (h := ?_)
    simp only [Act.put, List.setIfInBounds_toArray, List.set_cons_zero, List.set_cons_succ]
    refine oneA 1 22 hsel (h := ?_)
    simp only [Act.put, List.setIfInBounds_toArray, List.set_cons_zero, List.set_cons_succ]
    refine oneA 2 23 hsel (h := ?_)
    simp only [Act.put, List.setIfInBounds_toArray, List.set_cons_zero, List.set_cons_succ]
    refine oneA 3 24 hsel (h := ?_)
    simp only [Act.put, List.setIfInBounds_toArray, List.set_cons_zero, List.set_cons_succ]
    refine wpAnyL_ready (rs := [4, 5]) (by kernel_rfl) (by kernel_rfl) (by simp) ?_
    refine AllReadyL.cons (o := ?_) ?_ (fun K hK => ?_) (AllReadyL.cons (o := ?_) ?_ (fun K hK => ?_) AllReadyL.nil)
    case refine_2 => (simp only [List.getElem?_cons_succ, List.getElem?_cons_zero]; rfl)
    case refine_5 => (simp only [List.getElem?_cons_succ, List.getElem?_cons_zero]; rfl)
    case refine_3 =>
      go_simp
      clear hHeld
      refine hK.out _ _ trivial (fun hHeld => ?_)
      clear hK K
      try simp only [List.set_cons_zero, List.set_cons_succ]
      refine wpAnyL_ready (rs := [5]) (by kernel_rfl) (by kernel_rfl) (by simp) ?_
      refine AllReadyL.cons (o := ?_) ?_ (fun K hK => ?_) AllReadyL.nil
      case refine_2 => (simp only [List.getElem?_cons_succ, List.getElem?_cons_zero]; rfl)
      go_simp
      clear hHeld
      refine hK.out _ _ trivial (fun hHeld => ?_)
      clear hK K
      try simp only [List.set_cons_zero, List.set_cons_succ]
      refine wpAnyL_ready (rs := [6]) (by kernel_rfl) (by kernel_rfl) (by simp) ?_
      refine AllReadyL.cons (o := ?_) ?_ (fun K hK => ?_) AllReadyL.nil
      case refine_2 => (simp only [List.getElem?_cons_succ, List.getElem?_cons_zero]; rfl)
      go_simp
      clear hHeld
      refine hK.out _ _ trivial (fun hHeld => ?_)
      clear hK K
      try simp only [List.set_cons_zero, List.set_cons_succ]
      refine wpAnyL_ready (rs := [7]) (by kernel_rfl) (by kernel_rfl) (by simp) ?_
      refine AllReadyL.cons (o := ?_) ?_ (fun K hK => ?_) AllReadyL.nil
      case refine_2 => (simp only [List.getElem?_cons_succ, List.getElem?_cons_zero]; rfl)
      rw [if_pos (by kernel_rfl)]
      refine wp_append_at (.tmp 25) (.tmp 27) 26 rfl B 67 i1' zK 2 32 Tryz.underlying26 HI1.out.1 HI1.out.2.1 HI1.out.2.2.1 HI1.out.2.2.2 (by rfl) (by omega) (.slice R k t) k C rfl (World.ownsRow.alloc HRX.out _) ⟨wx.heap.size, 0, none⟩ 1 1 [.slice KP kn kc, .int .i64 (r : Nat)] rfl rfl (fun j u hu => by rw [Addr.add_lit, HBA.out.cell, Nat.zero_add]; exact hu) (by simp [Value.oneCell']) (by simp only [maxLen]; omega) (by omega) (by have := HNB.out.2.2.2.2.2; have := HLX.out.size; simp; omega) ?_
      intro v' w' ho' hg' hat'
      obtain ⟨R2, t2, rfl, _⟩ := raw_of_own ho'
      have HAD := Lib.hid (added (i := 2) HHX.out HBX.out HR0.out HRX.out HLX.out HNB.out.1 HNB.out.2.1 HNB.out.2.2.1 HNB.out.2.2.2.1 HNB.out.2.2.2.2.1 HNB.out.2.2.2.2.2 hg' ho' hat')
      have HB2 : Hid (Blk w' bn 28 [.bool lf, kv, .slice R k t]) := Lib.hid ((hg'.block bn (by have := HBX.out.lt; simp; omega) (fun e => by have := World.ownsRow.lt HR0.out bn e.symm; have := HNB.out; omega)).trans (HBX.out.alloc _))
      obtain ⟨y0, y1, y2⟩ := HB2.out.tri
      obtain ⟨g0, g1, g2⟩ := HB2.out.melt3
      clear ho' hg' hat'
      clear hHeld
      refine hK.out _ _ trivial (fun hHeld => ?_)
      clear hK K
      try simp only [Act.put, List.setIfInBounds_toArray, List.set_cons_zero, List.set_cons_succ]
      refine oneA 8 29 hsel (h := ?_)
      simp only [Act.put, List.setIfInBounds_toArray, List.set_cons_zero, List.set_cons_succ]
      refine oneA 9 30 hsel (h := ?_)
      simp only [Act.put, List.setIfInBounds_toArray, List.set_cons_zero, List.set_cons_succ]
      refine wpAnyL_ready (rs := [10]) (by kernel_rfl) (by kernel_rfl) (by simp) ?_
      refine AllReadyL.cons (o := ?_) ?_ (fun K hK => ?_) AllReadyL.nil
      case refine_2 => (simp only [List.getElem?_cons_succ, List.getElem?_cons_zero]; rfl)
      go_simp
      clear hHeld
      refine hK.out _ _ trivial (fun hHeld => ?_)
      clear hK K
      try simp only [List.set_cons_zero, List.set_cons_succ]
      refine wpAnyL_done (by kernel_rfl) (by kernel_rfl) ?_ _
      clear hsel hHeld
      go_wp2
      go_end0
      have hkn := HKN.out
      subst hkn
      rw [HRV.out]
      exact ⟨_, _, _, _, rfl, HAD.out.1, HAD.out.2.1, HAD.out.2.2.1, HAD.out.2.2.2.1 _ _ _ HNX.out, HAD.out.2.2.2.2.1, HAD.out.2.2.2.2.2⟩
    case refine_6 =>
      go_simp
      clear hHeld
      refine hK.out _ _ trivial (fun hHeld => ?_)
      clear hK K
      try simp only [List.set_cons_zero, List.set_cons_succ]
      refine wpAnyL_ready (rs := [4, 6]) (by kernel_rfl) (by kernel_rfl) (by simp) ?_
      refine AllReadyL.cons (o := ?_) ?_ (fun K hK => ?_) (AllReadyL.cons (o := ?_) ?_ (fun K hK => ?_) AllReadyL.nil)
      case refine_2 => (simp only [List.getElem?_cons_succ, List.getElem?_cons_zero]; rfl)
      case refine_5 => (simp only [List.getElem?_cons_succ, List.getElem?_cons_zero]; rfl)
      case refine_3 =>
        go_simp
        clear hHeld
        refine hK.out _ _ trivial (fun hHeld => ?_)
        clear hK K
        try simp only [List.set_cons_zero, List.set_cons_succ]
        refine wpAnyL_ready (rs := [6]) (by kernel_rfl) (by kernel_rfl) (by simp) ?_
        refine AllReadyL.cons (o := ?_) ?_ (fun K hK => ?_) AllReadyL.nil
        case refine_2 => (simp only [List.getElem?_cons_succ, List.getElem?_cons_zero]; rfl)
        go_simp
        clear hHeld
        refine hK.out _ _ trivial (fun hHeld => ?_)
        clear hK K
        try simp only [List.set_cons_zero, List.set_cons_succ]
        refine wpAnyL_ready (rs := [7]) (by kernel_rfl) (by kernel_rfl) (by simp) ?_
        refine AllReadyL.cons (o := ?_) ?_ (fun K hK => ?_) AllReadyL.nil
        case refine_2 => (simp only [List.getElem?_cons_succ, List.getElem?_cons_zero]; rfl)
        rw [if_pos (by kernel_rfl)]
        refine wp_append_at (.tmp 25) (.tmp 27) 26 rfl B 67 i1' zK 2 32 Tryz.underlying26 HI1.out.1 HI1.out.2.1 HI1.out.2.2.1 HI1.out.2.2.2 (by rfl) (by omega) (.slice R k t) k C rfl (World.ownsRow.alloc HRX.out _) ⟨wx.heap.size, 0, none⟩ 1 1 [.slice KP kn kc, .int .i64 (r : Nat)] rfl rfl (fun j u hu => by rw [Addr.add_lit, HBA.out.cell, Nat.zero_add]; exact hu) (by simp [Value.oneCell']) (by simp only [maxLen]; omega) (by omega) (by have := HNB.out.2.2.2.2.2; have := HLX.out.size; simp; omega) ?_
        intro v' w' ho' hg' hat'
        obtain ⟨R2, t2, rfl, _⟩ := raw_of_own ho'
        have HAD := Lib.hid (added (i := 2) HHX.out HBX.out HR0.out HRX.out HLX.out HNB.out.1 HNB.out.2.1 HNB.out.2.2.1 HNB.out.2.2.2.1 HNB.out.2.2.2.2.1 HNB.out.2.2.2.2.2 hg' ho' hat')
        have HB2 : Hid (Blk w' bn 28 [.bool lf, kv, .slice R k t]) := Lib.hid ((hg'.block bn (by have := HBX.out.lt; simp; omega) (fun e => by have := World.ownsRow.lt HR0.out bn e.symm; have := HNB.out; omega)).trans (HBX.out.alloc _))
        obtain ⟨y0, y1, y2⟩ := HB2.out.tri
        obtain ⟨g0, g1, g2⟩ := HB2.out.melt3
        clear ho' hg' hat'
        clear hHeld
        refine hK.out _ _ trivial (fun hHeld => ?_)
        clear hK K
        try simp only [Act.put, List.setIfInBounds_toArray, List.set_cons_zero, List.set_cons_succ]
        refine oneA 8 29 hsel (h := ?_)
        simp only [Act.put, List.setIfInBounds_toArray, List.set_cons_zero, List.set_cons_succ]
        refine oneA 9 30 hsel (h := ?_)
        simp only [Act.put, List.setIfInBounds_toArray, List.set_cons_zero, List.set_cons_succ]
        refine wpAnyL_ready (rs := [10]) (by kernel_rfl) (by kernel_rfl) (by simp) ?_
        refine AllReadyL.cons (o := ?_) ?_ (fun K hK => ?_) AllReadyL.nil
        case refine_2 => (simp only [List.getElem?_cons_succ, List.getElem?_cons_zero]; rfl)
        go_simp
        clear hHeld
        refine hK.out _ _ trivial (fun hHeld => ?_)
        clear hK K
        try simp only [List.set_cons_zero, List.set_cons_succ]
        refine wpAnyL_done (by kernel_rfl) (by kernel_rfl) ?_ _
        clear hsel hHeld
        go_wp2
        go_end0
        have hkn := HKN.out
        subst hkn
        rw [HRV.out]
        exact ⟨_, _, _, _, rfl, HAD.out.1, HAD.out.2.1, HAD.out.2.2.1, HAD.out.2.2.2.1 _ _ _ HNX.out, HAD.out.2.2.2.2.1, HAD.out.2.2.2.2.2⟩
      case refine_6 =>
        go_simp
        clear hHeld
        refine hK.out _ _ trivial (fun hHeld => ?_)
        clear hK K
        try simp only [List.set_cons_zero, List.set_cons_succ]
        refine wpAnyL_ready (rs := [4]) (by kernel_rfl) (by kernel_rfl) (by simp) ?_
        refine AllReadyL.cons (o := ?_) ?_ (fun K hK => ?_) AllReadyL.nil
        case refine_2 => (simp only [List.getElem?_cons_succ, List.getElem?_cons_zero]; rfl)
        go_simp
        clear hHeld
        refine hK.out _ _ trivial (fun hHeld => ?_)
        clear hK K
        try simp only [List.set_cons_zero, List.set_cons_succ]
        refine wpAnyL_ready (rs := [7]) (by kernel_rfl) (by kernel_rfl) (by simp) ?_
        refine AllReadyL.cons (o := ?_) ?_ (fun K hK => ?_) AllReadyL.nil
        case refine_2 => (simp only [List.getElem?_cons_succ, List.getElem?_cons_zero]; rfl)
        rw [if_pos (by kernel_rfl)]
        refine wp_append_at (.tmp 25) (.tmp 27) 26 rfl B 67 i1' zK 2 32 Tryz.underlying26 HI1.out.1 HI1.out.2.1 HI1.out.2.2.1 HI1.out.2.2.2 (by rfl) (by omega) (.slice R k t) k C rfl (World.ownsRow.alloc HRX.out _) ⟨wx.heap.size, 0, none⟩ 1 1 [.slice KP kn kc, .int .i64 (r : Nat)] rfl rfl (fun j u hu => by rw [Addr.add_lit, HBA.out.cell, Nat.zero_add]; exact hu) (by simp [Value.oneCell']) (by simp only [maxLen]; omega) (by omega) (by have := HNB.out.2.2.2.2.2; have := HLX.out.size; simp; omega) ?_
        intro v' w' ho' hg' hat'
        obtain ⟨R2, t2, rfl, _⟩ := raw_of_own ho'
        have HAD := Lib.hid (added (i := 2) HHX.out HBX.out HR0.out HRX.out HLX.out HNB.out.1 HNB.out.2.1 HNB.out.2.2.1 HNB.out.2.2.2.1 HNB.out.2.2.2.2.1 HNB.out.2.2.2.2.2 hg' ho' hat')
        have HB2 : Hid (Blk w' bn 28 [.bool lf, kv, .slice R k t]) := Lib.hid ((hg'.block bn (by have := HBX.out.lt; simp; omega) (fun e => by have := World.ownsRow.lt HR0.out bn e.symm; have := HNB.out; omega)).trans (HBX.out.alloc _))
        obtain ⟨y0, y1, y2⟩ := HB2.out.tri
        obtain ⟨g0, g1, g2⟩ := HB2.out.melt3
        clear ho' hg' hat'
        clear hHeld
        refine hK.out _ _ trivial (fun hHeld => ?_)
        clear hK K
        try simp only [Act.put, List.setIfInBounds_toArray, List.set_cons_zero, List.set_cons_succ]
        refine oneA 8 29 hsel (h := ?_)
        simp only [Act.put, List.setIfInBounds_toArray, List.set_cons_zero, List.set_cons_succ]
        refine oneA 9 30 hsel (h := ?_)
        simp only [Act.put, List.setIfInBounds_toArray, List.set_cons_zero, List.set_cons_succ]
        refine wpAnyL_ready (rs := [10]) (by kernel_rfl) (by kernel_rfl) (by simp) ?_
        refine AllReadyL.cons (o := ?_) ?_ (fun K hK => ?_) AllReadyL.nil
        case refine_2 => (simp only [List.getElem?_cons_succ, List.getElem?_cons_zero]; rfl)
        go_simp
        clear hHeld
        refine hK.out _ _ trivial (fun hHeld => ?_)
        clear hK K
        try simp only [List.set_cons_zero, List.set_cons_succ]
        refine wpAnyL_done (by kernel_rfl) (by kernel_rfl) ?_ _
        clear hsel hHeld
        go_wp2
        go_end0
        have hkn := HKN.out
        subst hkn
        rw [HRV.out]
        exact ⟨_, _, _, _, rfl, HAD.out.1, HAD.out.2.1, HAD.out.2.2.1, HAD.out.2.2.2.1 _ _ _ HNX.out, HAD.out.2.2.2.2.1, HAD.out.2.2.2.2.2⟩
end Go.Proofs.YtoghojgajpfkkaaGreatDoor
