/-
  Several texts, as one.
-/
import Derived.Test.YtbpldkhgiddmlaaGreatDoorRows
import Derived.WalkKit
import Derived.Deep.MidRow
import Derived.Deep.Draws
import Derived.Below
import Derived.Lib.Hide
import Derived.Laws.AppendOwnNone
import Derived.Laws.BytesArg
import Derived.OwnWalk
import Derived.WalkSpells
import Derived.IntWalk
import Derived.Deep.RegionHeld3
import Derived.Outline
import Derived.Lib.Bytealg
import Derived.Laws.Externs
import Derived.Deep.QuietTactic
import Derived.BigQuiet
import Derived.Deep.LoopGhost
import Derived.Laws.OwnMore
import Derived.Shelf.Spec.SlicesGrow
import Derived.Deep.Onto
/-
  What a disk is in memory, for any world: plain lemmas on blocks, and on what a call leaves alone.
-/
namespace Go.Proofs.YtbpldkhgiddmlaaGreatDoor
open Go.RowKit

/-- Only blocks of which F speaks may have changed; the streams are as they were. -/
structure Only (F : Nat → Prop) (w w' : World) : Prop where
  os : w'.os = w.os
  tape : w'.tape = w.tape
  output : w'.output = w.output
  size : w.heap.size ≤ w'.heap.size
  block : ∀ k, ¬ F k → w'.heap[k]? = w.heap[k]?

section
variable {F G : Nat → Prop} {a w w' : World}
theorem Only.refl (F : Nat → Prop) (w : World) : Only F w w := ⟨rfl, rfl, rfl, Nat.le_refl _, fun _ _ => rfl⟩
theorem Only.trans {b c : World} (h : Only F a b) (k : Only F b c) : Only F a c :=
  ⟨k.os.trans h.os, k.tape.trans h.tape, k.output.trans h.output, Nat.le_trans h.size k.size, fun i hi => (k.block i hi).trans (h.block i hi)⟩
theorem Only.mono (h : Only F w w') (hg : ∀ k, F k → G k) : Only G w w' := ⟨h.os, h.tape, h.output, h.size, fun k hk => h.block k (fun hf => hk (hg k hf))⟩
theorem Only.drew (h : Only F a w) : Only F a w.drew := ⟨h.os, h.tape, h.output, h.size, h.block⟩
theorem Only.drewN (h : Only F a w) (n : Nat) : Only F a (w.drewN n) := ⟨h.os, h.tape, h.output, h.size, h.block⟩
theorem Only.alloc (h : Only F a w) (hF : ∀ k, a.heap.size ≤ k → F k) (o : Obj) : Only F a (w.alloc o) :=
  ⟨h.os, h.tape, h.output, Nat.le_trans h.size (by simp), fun k hk => by
    have hlt : k < a.heap.size := Nat.lt_of_not_le fun h => hk (hF k h)
    exact (Below.heap_alloc w o k (Nat.lt_of_lt_of_le hlt h.size)).trans (h.block k hk)⟩
theorem Only.setCell (h : Only F a w) {p : Addr} (hp : F p.block) (u : Value) : Only F a (w.setCell p u) :=
  ⟨h.os, h.tape, h.output, by simpa [World.setCell] using h.size, fun k hk => (Below.heap_setCell w p u k (fun e => hk (e ▸ hp))).trans (h.block k hk)⟩
theorem Only.setCells (b : Nat) : ∀ (vs : List Value) (o : Nat) {w : World}, Only F a w → F b → Only F a (w.setCells b o vs)
  | [], _, _, h, _ => h
  | v :: r, o, _, h, hb => Only.setCells b r (o + 1) (h.setCell (p := ⟨b, o, none⟩) hb v) hb
theorem Only.setRow (h : Only F a w) {g : Nat} (hp : F g) (cs : Array Value) : Only F a (w.setRow g cs) :=
  ⟨h.os, h.tape, h.output, by simpa [World.setRow] using h.size, fun k hk => (setRow_other w g k cs (fun e => hk (e ▸ hp))).trans (h.block k hk)⟩
theorem Only.grown (h : Only F a w) {row : Option Nat} (hg : w.grownBy w' row) (hF : ∀ k, a.heap.size ≤ k → F k) (hr : ∀ g, row = some g → F g) : Only F a w' :=
  ⟨hg.os.trans h.os, hg.tape.trans h.tape, hg.output.trans h.output, Nat.le_trans h.size hg.size, fun k hk => by
    have hlt : k < a.heap.size := Nat.lt_of_not_le fun h => hk (hF k h)
    exact (hg.block k (Nat.lt_of_lt_of_le hlt h.size) (fun e => hk (hr k e.symm))).trans (h.block k hk)⟩
theorem Only.below {B : Nat} (h : Below B w w') : Only (B ≤ ·) w w' := ⟨h.os, h.tape, h.output, h.size, fun k hk => h.block k (by omega)⟩
theorem Only.toBelow {B : Nat} (h : Only F w w') (hF : ∀ k, F k → B ≤ k) : Below B w w' := ⟨h.os, h.tape, h.output, h.size, fun k hk => h.block k (fun hf => by have := hF k hf; omega)⟩
theorem Only.cell (h : Only F w w') {p : Addr} (hp : ¬ F p.block) : w'.cell? p = w.cell? p := World.cell?_of_block (w := w) (h.block p.block hp)
theorem Only.frozen (h : Only F w w') {p : Addr} (hp : ¬ F p.block) : w'.frozen? p = w.frozen? p := World.frozen?_of_block (w := w) (h.block p.block hp)
end

/-- Block g is the cells cs of element type t; none is frozen. -/
def Blk (w : World) (g : Nat) (t : TypeId) (cs : List Value) : Prop := w.heap[g]? = some (.cells cs.toArray t (0, 0))

section
variable {F : Nat → Prop} {w w' : World} {g : Nat} {t : TypeId} {cs : List Value}
theorem Blk.lt (h : Blk w g t cs) : g < w.heap.size := (Array.getElem?_eq_some_iff.1 h).1
theorem Blk.cell (h : Blk w g t cs) (i : Nat) : w.cell? ⟨g, i, none⟩ = cs[i]? := by rw [cell_of_row w g i _ t (0, 0) h]; simp
theorem Blk.frozen (h : Blk w g t cs) (i : Nat) : w.frozen? ⟨g, i, none⟩ = false := frozen_of_row w g i _ t h
theorem Blk.new (w : World) (t : TypeId) (cs : List Value) : Blk (w.alloc (.cells cs.toArray t)) w.heap.size t cs := heap_alloc_new w _
theorem Blk.drew (h : Blk w g t cs) : Blk w.drew g t cs := h
theorem Blk.drewN (h : Blk w g t cs) (n : Nat) : Blk (w.drewN n) g t cs := h
theorem Blk.alloc (h : Blk w g t cs) (o : Obj) : Blk (w.alloc o) g t cs := (Below.heap_alloc w o g h.lt).trans h
theorem Blk.only (h : Blk w g t cs) (ho : Only F w w') (hg : ¬ F g) : Blk w' g t cs := (ho.block g hg).trans h
theorem Blk.far (h : Blk w g t cs) {p : Addr} (hp : g ≠ p.block) (u : Value) : Blk (w.setCell p u) g t cs := (Below.heap_setCell w p u g hp).trans h
theorem Blk.set_ (h : Blk w g t cs) (i : Nat) (u : Value) : Blk (w.setCell ⟨g, i, none⟩ u) g t (cs.set i u) := by
  unfold Blk at h ⊢
  simp [World.setCell, Array.getElem?_modify, h]
theorem Blk.farN {b : Nat} (hp : g ≠ b) : ∀ (vs : List Value) (o : Nat) {w : World}, Blk w g t cs → Blk (w.setCells b o vs) g t cs
  | [], _, _, h => h
  | v :: r, o, _, h => Blk.farN hp r (o + 1) (h.far (p := ⟨b, o, none⟩) hp v)
theorem Blk.ne {t' : TypeId} {cs' : List Value} {g' : Nat} (h : Blk w g t cs) (h' : Blk w g' t' cs') (ht : t ≠ t') : g ≠ g' := by
  rintro rfl
  unfold Blk at h h'
  rw [h] at h'
  injection h' with h'
  injection h' with _ h2
  exact ht h2
theorem Blk.range (h : Blk w g t cs) (o n : Nat) : w.rangeAt g o ((cs.drop o).take n) := fun j v hv => by
  rw [h.cell]
  rw [List.getElem?_take, List.getElem?_drop] at hv
  split at hv
  · exact hv
  · cases hv
theorem Blk.there (h : Blk w g t cs) (o n : Nat) (hn : o + n ≤ cs.length) : w.there g o n := fun j hj => by
  refine ⟨?_, h.frozen _⟩
  rw [h.cell, List.getElem?_eq_getElem (by omega)]
  rfl
end

/-- vs laid over cs from place o on. -/
def over {α : Type} (cs : List α) (o : Nat) (vs : List α) : List α := cs.take o ++ (vs ++ cs.drop (o + vs.length))
theorem over_nil {α : Type} (cs : List α) (o : Nat) : over cs o [] = cs := by simp [over]
theorem over_cons {α : Type} (cs : List α) (o : Nat) (v : α) (r : List α) (h : o < cs.length) : over (cs.set o v) (o + 1) r = over cs o (v :: r) := by
  unfold over
  rw [List.take_set, List.drop_set, if_pos (by omega)]
  have e : (cs.take (o + 1)).set o v = cs.take o ++ [v] := by
    rw [List.take_succ_eq_append_getElem h, List.set_append_right _ _ (by simp; omega)]
    simp [Nat.min_eq_left (Nat.le_of_lt h)]
  rw [e]
  simp [Nat.add_comm, Nat.add_left_comm]
theorem over_map {α β : Type} (f : α → β) (cs : List α) (o : Nat) (vs : List α) : (over cs o vs).map f = over (cs.map f) o (vs.map f) := by
  simp [over, List.map_take, List.map_drop]
theorem over_length {α : Type} (cs : List α) (o : Nat) (vs : List α) (h : o + vs.length ≤ cs.length) : (over cs o vs).length = cs.length := by
  simp [over]; omega
theorem over_get {α : Type} (cs : List α) (o : Nat) (vs : List α) (h : o + vs.length ≤ cs.length) (i : Nat) :
    (over cs o vs)[i]? = if o ≤ i ∧ i < o + vs.length then vs[i - o]? else cs[i]? := by
  have h1 : (cs.take o).length = o := by simp; omega
  unfold over
  rw [List.getElem?_append, h1]
  by_cases c1 : i < o
  · rw [if_pos c1, if_neg (by omega), List.getElem?_take, if_pos c1]
  · rw [if_neg c1, List.getElem?_append]
    by_cases c2 : i - o < vs.length
    · rw [if_pos c2, if_pos (by omega)]
    · rw [if_neg c2, if_neg (by omega), List.getElem?_drop]
      congr 1
      omega
theorem over_append {α : Type} (cs ds : List α) (o : Nat) (vs : List α) (h : o + vs.length ≤ cs.length) : over (cs ++ ds) o vs = over cs o vs ++ ds := by
  apply List.ext_getElem?
  intro i
  rw [over_get _ _ _ (by simp; omega), List.getElem?_append, List.getElem?_append, over_length _ _ _ h, over_get _ _ _ h]
  split <;> split <;> first | rfl | omega
theorem Blk.setN {g : Nat} {t : TypeId} : ∀ (vs : List Value) (o : Nat) {w : World} {cs : List Value}, Blk w g t cs → o + vs.length ≤ cs.length → Blk (w.setCells g o vs) g t (over cs o vs)
  | [], o, w, cs, h, _ => by rw [over_nil]; exact h
  | v :: r, o, w, cs, h, hl => by
    simp only [List.length_cons] at hl
    rw [World.setCells, ← over_cons cs o v r (by omega)]
    exact Blk.setN r (o + 1) (h.set_ o v) (by simp; omega)

end Go.Proofs.YtbpldkhgiddmlaaGreatDoor

/-
  Bytes as cells; a slice value that holds these bytes.
-/
set_option linter.unusedVariables false
namespace Go.Proofs.YtbpldkhgiddmlaaGreatDoor
open Go.RowKit

abbrev Bytes := List UInt8
def cb (l : Bytes) : List Value := l.map fun b => .int .u8 b.toNat
theorem cb_length (l : Bytes) : (cb l).length = l.length := by simp [cb]
theorem cb_one (l : Bytes) : ∀ v ∈ cb l, v.oneCell' = true := by
  intro v hv
  simp only [cb, List.mem_map] at hv
  obtain ⟨b, _, rfl⟩ := hv
  rfl
theorem cb_append (a b : Bytes) : cb (a ++ b) = cb a ++ cb b := by simp [cb]
theorem cb_take (a : Bytes) (n : Nat) : cb (a.take n) = (cb a).take n := by simp [cb, List.map_take]
theorem cb_drop (a : Bytes) (n : Nat) : cb (a.drop n) = (cb a).drop n := by simp [cb, List.map_drop]
theorem cb_over (a : Bytes) (o : Nat) (b : Bytes) : cb (over a o b) = over (cb a) o (cb b) := over_map _ _ _ _
theorem cb_replicate (n : Nat) : cb (List.replicate n 0) = List.replicate n (.int .u8 0) := by simp [cb]

def Txt (w : World) (A : Option Addr) (n : Nat) (xs : Bytes) : Prop := xs.length = n ∧ (0 < n → ∃ ad, A = some ad ∧ ∀ j u, (cb xs)[j]? = some u → w.cell? (ad.add j) = some u)

theorem add_block' (a : Addr) (n : Nat) : (a.add n).block = a.block := by unfold Addr.add; split <;> rfl
theorem add_add (ad : Addr) (i j : Nat) : (ad.add i).add j = ad.add (i + j) := by
  unfold Addr.add
  by_cases hi : i = 0 <;> by_cases hj : j = 0 <;> simp [hi, hj, Nat.add_assoc]
theorem Txt.block {w : World} {ad : Addr} {n : Nat} {xs : Bytes} (h : Txt w (some ad) n xs) (hn : 0 < n) : ad.block < w.heap.size := by
  obtain ⟨ad', e, hc⟩ := h.2 hn
  cases e
  have hl : 0 < (cb xs).length := by rw [cb_length, h.1]; exact hn
  have := World.block_lt_of_cell? w _ (hc 0 _ (List.getElem?_eq_getElem hl))
  rwa [add_block'] at this
theorem Txt.only {w w' : World} {F : Nat → Prop} {A : Option Addr} {n : Nat} {xs : Bytes} (h : Txt w A n xs) (ho : Only F w w') (hF : ∀ ad, 0 < n → A = some ad → ¬ F ad.block) : Txt w' A n xs :=
  ⟨h.1, fun hn => by
    obtain ⟨ad, e, hc⟩ := h.2 hn
    exact ⟨ad, e, fun j u hu => (ho.cell (p := ad.add j) (by rw [add_block']; exact hF ad hn e)).trans (hc j u hu)⟩⟩
theorem Txt.later {w w' : World} {A : Option Addr} {n : Nat} {xs : Bytes} (h : Txt w A n xs) (ho : Only (w.heap.size ≤ ·) w w') : Txt w' A n xs :=
  ⟨h.1, fun hn => by
    obtain ⟨ad, e, hc⟩ := h.2 hn
    subst e
    have hb := Txt.block h hn
    exact ⟨ad, rfl, fun j u hu => (ho.cell (p := ad.add j) (by rw [add_block']; omega)).trans (hc j u hu)⟩⟩
theorem Txt.take {w : World} {ad : Addr} {n : Nat} {xs : Bytes} (h : Txt w (some ad) n xs) (a : Nat) (ha : a ≤ n) : Txt w (some ad) a (xs.take a) := by
  refine ⟨by simp; have := h.1; omega, fun h0 => ?_⟩
  obtain ⟨ad', e, hc⟩ := h.2 (by omega)
  refine ⟨ad', e, fun j u hu => hc j u ?_⟩
  rw [cb_take, List.getElem?_take] at hu
  split at hu
  · exact hu
  · cases hu
theorem Txt.drop {w : World} {ad : Addr} {n : Nat} {xs : Bytes} (h : Txt w (some ad) n xs) (a : Nat) : Txt w (some (ad.add a)) (n - a) (xs.drop a) := by
  refine ⟨by simp; have := h.1; omega, fun h0 => ?_⟩
  obtain ⟨ad', e, hc⟩ := h.2 (by omega)
  cases e
  refine ⟨_, rfl, fun j u hu => ?_⟩
  rw [add_add]
  exact hc _ u (by rw [← hu, cb_drop, List.getElem?_drop])
theorem Txt.nil_ (w : World) (A : Option Addr) : Txt w A 0 [] := ⟨rfl, fun h => absurd h (by decide)⟩
theorem Txt.at_ {w : World} {A : Option Addr} {n : Nat} {xs : Bytes} (h : Txt w A n xs) {k : Nat} (hk : k < n) : ∃ ad x, A = some ad ∧ xs[k]? = some x ∧ w.cell? (ad.add k) = some (.int .u8 (x.toNat : Nat)) := by
  obtain ⟨ad, e, hc⟩ := h.2 (by omega)
  obtain ⟨x, hx⟩ : ∃ x, xs[k]? = some x := ⟨_, List.getElem?_eq_getElem (by have := h.1; omega)⟩
  exact ⟨ad, x, e, hx, hc k _ (by simp [cb, hx])⟩
theorem Txt.src {w : World} {A : Option Addr} {n : Nat} {xs : Bytes} (h : Txt w A n xs) : ∀ ad, A = some ad → ∀ j u, (cb xs)[j]? = some u → w.cell? (ad.add j) = some u := by
  intro ad e j u hu
  have hj : j < (cb xs).length := (List.getElem?_eq_some_iff.1 hu).1
  rw [cb_length, h.1] at hj
  obtain ⟨ad', e', hc⟩ := h.2 (by omega)
  rw [e] at e'
  cases e'
  exact hc j u hu
/-- Bytes of a block that is known whole. -/
theorem Txt.blk {w : World} {g : Nat} {t : TypeId} {xs : Bytes} {rest : List Value} (h : Blk w g t (cb xs ++ rest)) (o k : Nat) (hk : o + k ≤ xs.length) {A : Option Addr} (hA : 0 < k → A = some ⟨g, o, none⟩) : Txt w A k ((xs.drop o).take k) := by
  refine ⟨by simp; omega, fun hn => ⟨_, hA hn, fun j u hu => ?_⟩⟩
  have hj : j < k := by
    have := (List.getElem?_eq_some_iff.1 hu).1
    simp [cb] at this
    omega
  rw [Addr.add_mid, h.cell, List.getElem?_append_left (by rw [cb_length]; omega), ← hu]
  simp only [cb, List.getElem?_map, List.getElem?_take, if_pos hj, List.getElem?_drop]
/-- A row of one's own, as bytes that can be read. -/
theorem txt_of_own {w : World} {B n : Nat} {v : Value} {xs : Bytes} (h : w.ownsRow B 5 1 v n (cb xs)) : ∃ A c, v = .slice A n c ∧ Txt w A n xs ∧ (A = none → n = 0 ∧ c = 0) ∧ n ≤ c ∧ c ≤ maxLen ∧ (∀ ad, A = some ad → B ≤ ad.block ∧ ad.block < w.heap.size) := by
  have hl : xs.length = n := by have := h.1; rwa [cb_length, Nat.mul_one] at this
  rcases h.2 with ⟨rfl, rfl⟩ | ⟨g, cap, cur, rfl, hb, hg, hc, hm, _, _⟩
  · exact ⟨none, 0, rfl, ⟨hl, fun h => absurd h (by decide)⟩, fun _ => ⟨rfl, rfl⟩, Nat.le_refl _, Nat.zero_le _, fun ad e => by cases e⟩
  · refine ⟨some ⟨g, 0, none⟩, cap, rfl, ⟨hl, fun _ => ⟨_, rfl, ?_⟩⟩, (fun e => by cases e), hc, hm, fun ad e => ?_⟩
    · exact h.cells (g := g) rfl
    · cases e
      exact ⟨hb, (Array.getElem?_eq_some_iff.1 hg).1⟩
end Go.Proofs.YtbpldkhgiddmlaaGreatDoor

/-
  A bytes value; append of a source that may be nil; bytes.Clone; bytes.Equal.
-/
set_option linter.unusedVariables false
namespace Go.Proofs.YtbpldkhgiddmlaaGreatDoor
open Go.RowKit

/-- A slice value that holds these bytes. -/
def Src (w : World) (v : Value) (xs : Bytes) : Prop := ∃ A c, v = .slice A xs.length c ∧ Txt w A xs.length xs ∧ (A = none → c = 0) ∧ xs.length ≤ c ∧ c ≤ 9223372036854775807
theorem Src.later {w w' : World} {v : Value} {xs : Bytes} (h : Src w v xs) (ho : Only (w.heap.size ≤ ·) w w') : Src w' v xs := by
  obtain ⟨A, c, h1, h2, h3⟩ := h
  exact ⟨A, c, h1, h2.later ho, h3⟩
theorem Src.nil_ (w : World) : Src w (.slice none 0 0) [] := ⟨none, 0, rfl, Txt.nil_ _ _, fun _ => rfl, Nat.le_refl _, by omega⟩
theorem Src.own {w : World} {B n : Nat} {v : Value} {xs : Bytes} (h : w.ownsRow B 5 1 v n (cb xs)) : Src w v xs := by
  obtain ⟨A, c, h1, h2, h3, h4, h5, _⟩ := txt_of_own h
  obtain rfl : xs.length = n := h2.1
  exact ⟨A, c, h1, h2, fun e => (h3 e).2, h4, by simp only [maxLen] at h5; omega⟩

theorem wpList_append_src {P : Program} (w : World) {ops : Array Oper} {rest : List Oper} {o : Oper} {a : Act} {Q : Exit → Act → World → Prop} (hgd : o.guard = none) (s x : Operand) (t : TypeId)
    (ho : o.op = .call { callee := .builtin .append, args := #[s, x], argTypes := #[t, t] })
    (base : Nat) (e : TypeId) (i : TypeInfo) (z : Value) (size bytes : Nat) (ht : P.underlying t = some (.slice e)) (hi : P.info? e = some i) (hz : i.zero = some z)
    (hsize : i.size = size) (hby : i.bytes = bytes) (hzs : z.cells.size = size) (hsz : 0 < size)
    (v : Value) (n : Nat) (xs : List Value) (hs : a.eval s = v) (hown : w.ownsRow base e size v n xs)
    (A : Option Addr) (m c : Nat) (news : List Value) (hx : a.eval x = .slice A m c) (hnone : A = none → m = 0 ∧ c = 0) (hl : news.length = m * size) (hnews : ∀ ad, A = some ad → ∀ j u, news[j]? = some u → w.cell? (ad.add j) = some u) (h1 : ∀ u ∈ news, u.oneCell' = true)
    (h63 : n + m ≤ maxLen) (hbytes : (n + m) * bytes ≤ 140737488355328) (hbase : base ≤ w.heap.size)
    (h : ∀ v' w', w'.ownsRow base e size v' (n + m) (xs ++ news) → w.grownBy w' v.ownBlock → wpList P ops Q rest (a.put o.dst v') w') : wpList P ops Q (o :: rest) a w := by
  cases A with
  | some ad => exact wpList_append_own w hgd s x t ho base e i z size bytes ht hi hz hsize hby hzs hsz v n xs hs hown ad m c news hx hl (hnews ad rfl) h1 h63 hbytes hbase fun v' w' h2 h3 _ => h v' w' h2 h3
  | none =>
    obtain ⟨rfl, rfl⟩ := hnone rfl
    obtain rfl : news = [] := List.eq_nil_of_length_eq_zero (by simpa using hl)
    refine wpList_append_own_none hgd s x t ho base e i size ht hi v n xs hs hown hx ?_
    have h' := h v w (by simpa using hown) (World.grownBy.refl w _)
    exact h'

def z8 : Value := .int .u8 0
theorem info8 : (Tryz.prog.info? 5).map (fun i => (i.zero, i.size, i.bytes)) = some (some z8, 1, 1) := by kernel_rfl
theorem size8 : (Tryz.prog.info? 5).map (·.size) = some 1 := by kernel_rfl

theorem foldl_push (l : Bytes) : ∀ s : ByteArray, (l.map fun b => (b.toNat : Int)).foldl (fun r n => r.push (UInt8.ofNat n.toNat)) s = ⟨s.data ++ l.toArray⟩ := by
  intro s
  rw [foldl_push_bytes, List.map_map]
  congr 2
  rw [show (fun n : Int => UInt8.ofNat n.toNat) ∘ (fun b : UInt8 => (b.toNat : Int)) = id from funext fun b => by simp]
  simp

theorem convert_txt (w : World) (A : Option Addr) (n c : Nat) (xs : Bytes) (h : Txt w A n xs) :
    (convert 22 9 (.slice A n c)).run Tryz.prog w = .ok (.string ⟨xs.toArray⟩) w := by
  rw [run_convert_bytes_string w 22 9 5 _ n c Tryz.underlying22 Tryz.underlying5 Tryz.underlying9]
  rcases Nat.eq_zero_or_pos n with h0 | h0
  · subst h0
    obtain rfl : xs = [] := List.eq_nil_of_length_eq_zero h.1
    cases A <;> simp [Conv.bytesToString, loadCells]
    all_goals rfl
  · obtain ⟨ad, rfl, hc⟩ := h.2 h0
    have hl : (loadCells ad n).run Tryz.prog w = .ok ((xs.map fun b => (b.toNat : Int)).map (Value.int .u8)).toArray w := by
      have := run_loadCells_list (P := Tryz.prog) w ad (cb xs) hc
      rw [cb_length, h.1] at this
      rw [this]
      simp [cb]
    rw [run_bytesToString w ad n c _ hl, foldl_push]
    simp [ByteArray.empty, ByteArray.emptyWithCapacity]
    rfl

set_option maxRecDepth 100000 in
theorem Equal_c (w : World) (v u : Value) (xs ys : Bytes) (h : Src w v xs) (h' : Src w u ys) :
    Calls Tryz.prog 29 #[v, u] w fun e w' => e = .returned (.bool (decide (xs = ys))) ∧ w = w' := by
  obtain ⟨A, c, rfl, ht, _⟩ := h
  obtain ⟨B, c', rfl, ht', _⟩ := h'
  have k1 := convert_txt w A _ c xs ht
  have k2 := convert_txt w B _ c' ys ht'
  clear ht ht'
  go_enter Tryz.func29, Tryz.ntmps29
  go_wp2
  go_ret
  refine ⟨?_, rfl⟩
  congr 2
  by_cases e : xs = ys
  · subst e; simp
  · simp [e]
end Go.Proofs.YtbpldkhgiddmlaaGreatDoor

/-
  A cursor as plain data: what each call makes of it; numbers in bytes. No memory here.
-/
set_option linter.unusedVariables false
namespace Go.Proofs.YtbpldkhgiddmlaaGreatDoor

/-- n, the lowest byte first, in k bytes. -/
def le (n k : Nat) : Bytes := (List.range k).map fun i => UInt8.ofNat (n / 256 ^ i % 256)
def num : Bytes → Nat
  | [] => 0
  | x :: r => x.toNat + 256 * num r
def wide (width : Int) : Bool := decide (1 ≤ width) && decide (width ≤ 8)
def fits (n width : Int) : Bool := wide width && (decide (0 ≤ n) && decide (n / 256 ^ width.toNat = 0))

theorem le_length (n k : Nat) : (le n k).length = k := by simp [le]
theorem le_snoc (n k : Nat) : le n (k + 1) = le n k ++ [UInt8.ofNat (n / 256 ^ k % 256)] := by simp [le, List.range_succ]
theorem le_cons (n k : Nat) : le n (k + 1) = UInt8.ofNat (n % 256) :: le (n / 256) k := by
  simp only [le, List.range_succ_eq_map, List.map_cons, List.map_map, Nat.pow_zero, Nat.div_one]
  congr 1
  apply List.map_congr_left
  intro i _
  simp [Function.comp, Nat.pow_succ', Nat.div_div_eq_div_mul]
theorem num_lt : ∀ (xs : Bytes), num xs < 256 ^ xs.length
  | [] => by simp [num]
  | x :: r => by
    have h1 := num_lt r
    have h2 := UInt8.toNat_lt x
    simp only [num, List.length_cons, Nat.pow_succ']
    omega
theorem num_le : ∀ (k n : Nat), n < 256 ^ k → num (le n k) = n
  | 0, n, h => by simp [le, num]; simp at h; omega
  | k + 1, n, h => by
    rw [le_cons, num, num_le k (n / 256) (by rw [Nat.pow_succ] at h; exact Nat.div_lt_of_lt_mul (by omega))]
    simp
    omega
theorem num_snoc : ∀ (xs : Bytes) (x : UInt8), num (xs ++ [x]) = num xs + x.toNat * 256 ^ xs.length
  | [], x => by simp [num]
  | y :: r, x => by
    simp only [List.cons_append, num, num_snoc r x, List.length_cons, Nat.pow_succ']
    rw [Nat.mul_add, Nat.mul_left_comm, ← Nat.add_assoc]

theorem pow8 (k : Nat) (hk : k ≤ 8) : 256 ^ k ≤ 18446744073709551616 := Nat.le_trans (Nat.pow_le_pow_right (by decide) hk) (by decide)
theorem fits_parts {n width : Int} (h : fits n width = true) : ∃ (a k : Nat), n = a ∧ width = k ∧ 1 ≤ k ∧ k ≤ 8 ∧ a < 256 ^ k := by
  simp only [fits, wide, Bool.and_eq_true, decide_eq_true_eq] at h
  obtain ⟨⟨h1, h2⟩, h3, h4⟩ := h
  refine ⟨n.toNat, width.toNat, by omega, by omega, by omega, by omega, ?_⟩
  have h5 : ((n.toNat / 256 ^ width.toNat : Nat) : Int) = 0 := by
    rw [Int.natCast_ediv, Int.natCast_pow, Int.toNat_of_nonneg h3]
    exact h4
  have h6 : n.toNat / 256 ^ width.toNat = 0 := by omega
  rcases Nat.div_eq_zero_iff.1 h6 with h7 | h7
  · have := Nat.pow_pos (n := width.toNat) (show 0 < 256 by decide); omega
  · exact h7

structure Cur where
  b : Bytes
  at_ : Nat
  sp : Bool

structure Cur.WF (c : Cur) : Prop where
  at_ : c.at_ ≤ c.b.length
  len : c.b.length ≤ 1099511627776

def Cur.has (c : Cur) (n : Int) : Bool := !c.sp && (decide (0 ≤ n) && decide (n ≤ (c.b.length : Int) - c.at_))
def Cur.spoil (c : Cur) : Cur := { c with sp := true }
def Cur.take (c : Cur) (n : Int) : Cur := if c.has n = true then { c with at_ := c.at_ + n.toNat } else c.spoil
def Cur.got (c : Cur) (n : Int) : Bytes := if c.has n = true then (c.b.drop c.at_).take n.toNat else []
def Cur.write (c : Cur) (xs : Bytes) : Cur := if c.has xs.length = true then { c with b := over c.b c.at_ xs, at_ := c.at_ + xs.length } else c.spoil
def Cur.put (c : Cur) (n width : Int) : Cur := if fits n width = true then c.write (le n.toNat width.toNat) else c.spoil
/-- Can a number of so many bytes be read? -/
def Cur.may (c : Cur) (width : Int) : Bool := wide width && (c.has width && decide (num (c.got width) < 9223372036854775808))
def Cur.get (c : Cur) (width : Int) : Cur := if c.may width = true then c.take width else c.spoil
def Cur.val (c : Cur) (width : Int) : Nat := if c.may width = true then num (c.got width) else 0
def Cur.err (c : Cur) : Int := if c.sp = true then 30 else 0
def Cur.left (c : Cur) : Int := (c.b.length : Int) - c.at_
def Cur.new (b : Bytes) : Cur := ⟨b, 0, false⟩
def size (n : Int) : Nat := if 0 ≤ n ∧ n ≤ 65536 then n.toNat else 0
def Cur.make (n : Int) : Cur := Cur.new (List.replicate (size n) 0)

theorem Cur.has_parts {c : Cur} {n : Int} (h : c.has n = true) : c.sp = false ∧ ∃ k : Nat, n = k ∧ c.at_ + k ≤ c.b.length := by
  simp only [Cur.has, Bool.and_eq_true, decide_eq_true_eq, Bool.not_eq_true'] at h
  exact ⟨h.1, n.toNat, by omega, by omega⟩
theorem Cur.has_of {c : Cur} {k : Nat} (h : c.sp = false) (hk : c.at_ + k ≤ c.b.length) : c.has k = true := by
  simp only [Cur.has, h, Bool.not_false, Bool.true_and, Bool.and_eq_true, decide_eq_true_eq]
  omega
theorem Cur.got_length {c : Cur} {n : Int} (h : c.has n = true) : (c.got n).length = n.toNat := by
  obtain ⟨_, k, rfl, hk⟩ := Cur.has_parts h
  rw [Cur.got, if_pos h]
  simp
  omega
theorem Cur.got_no {c : Cur} {n : Int} (h : c.has n = false) : c.got n = [] := by rw [Cur.got, h]; rfl
theorem Cur.WF.spoil {c : Cur} (h : c.WF) : c.spoil.WF := ⟨h.at_, h.len⟩
theorem Cur.WF.take {c : Cur} (h : c.WF) (n : Int) : (c.take n).WF := by
  unfold Cur.take
  split
  · rename_i hn
    obtain ⟨_, k, rfl, hk⟩ := Cur.has_parts hn
    exact ⟨by simpa using hk, h.len⟩
  · exact h.spoil
theorem Cur.take_b (c : Cur) (n : Int) : (c.take n).b = c.b := by unfold Cur.take; split <;> rfl
theorem Cur.write_len (c : Cur) (xs : Bytes) : (c.write xs).b.length = c.b.length := by
  unfold Cur.write
  split
  · rename_i hn
    obtain ⟨_, k, e, hk⟩ := Cur.has_parts hn
    exact over_length _ _ _ (by omega)
  · rfl
theorem Cur.WF.write {c : Cur} (h : c.WF) (xs : Bytes) : (c.write xs).WF := by
  have hl := Cur.write_len c xs
  refine ⟨?_, by rw [hl]; exact h.len⟩
  rw [hl]
  unfold Cur.write
  split
  · rename_i hn
    obtain ⟨_, k, e, hk⟩ := Cur.has_parts hn
    show c.at_ + xs.length ≤ _
    omega
  · exact h.at_
theorem Cur.put_len (c : Cur) (n width : Int) : (c.put n width).b.length = c.b.length := by
  unfold Cur.put
  split
  · exact Cur.write_len _ _
  · rfl
theorem Cur.WF.put {c : Cur} (h : c.WF) (n width : Int) : (c.put n width).WF := by
  unfold Cur.put
  split
  · exact h.write _
  · exact h.spoil
theorem Cur.WF.get {c : Cur} (h : c.WF) (n : Int) : (c.get n).WF := by
  unfold Cur.get
  split
  · exact h.take _
  · exact h.spoil
theorem size_le (n : Int) : size n ≤ 65536 := by unfold size; split <;> omega
theorem Cur.WF.make (n : Int) : (Cur.make n).WF := ⟨Nat.zero_le _, by have := size_le n; simp [Cur.make, Cur.new]; omega⟩
end Go.Proofs.YtbpldkhgiddmlaaGreatDoor

/-
  The table of the generations in memory; what each of them has, by the program and by the document.
-/
set_option linter.unusedVariables false
namespace Go.Proofs.YtbpldkhgiddmlaaGreatDoor
open Go.RowKit

/-- Returned with this value; what was there is as it was. -/
def Told (w : World) (v : Value) (e : Ending) (w' : World) : Prop := e = .returned v ∧ Only (w.heap.size ≤ ·) w w'
theorem Told.later {w w' : World} {v : Value} {e : Ending} {w1 : World} (h : Told w' v e w1) (ho : Only (w.heap.size ≤ ·) w w') : Told w v e w1 := ⟨h.1, ho.trans (h.2.mono fun _ hk => Nat.le_trans ho.size hk)⟩
theorem on_new {w0 w w' : World} (h : Only (w0.heap.size ≤ ·) w0 w) (ho : Only (w.heap.size ≤ ·) w w') : Only (w0.heap.size ≤ ·) w0 w' := h.trans (ho.mono fun k hk => Nat.le_trans h.size hk)

def gcells : List Value := [.int .i64 0, .int .i64 0, .int .i64 0, .int .i64 0, .int .i64 16, .int .i64 400, .int .i64 4, .int .i64 8, .int .i64 20, .int .i64 800, .int .i64 8, .int .i64 16, .int .i64 24, .int .i64 1600, .int .i64 8, .int .i64 16]
/-- The table of the generations lies as it was laid. -/
def Gens (w : World) : Prop := 1 < w.heap.size ∧ ∀ (i : Nat) v, gcells[i]? = some v → w.cell? ⟨1, i, none⟩ = some v
theorem Gens.later {w w' : World} (h : Gens w) (ho : Only (w.heap.size ≤ ·) w w') : Gens w' :=
  ⟨Nat.lt_of_lt_of_le h.1 ho.size, fun i v hv => (ho.cell (p := ⟨1, i, none⟩) (by have := h.1; show ¬ w.heap.size ≤ 1; omega)).trans (h.2 i v hv)⟩

def gen (g : Int) : Bool := decide (1 ≤ g ∧ g ≤ 3)
theorem gen_iff (g : Int) : gen g = true ↔ g = 1 ∨ g = 2 ∨ g = 3 := by unfold gen; rw [decide_eq_true_eq]; omega
def tr (g a b c : Int) : Int := if g = 1 then a else if g = 2 then b else if g = 3 then c else 0
theorem tr_no {g : Int} (h : gen g = false) (a b c : Int) : tr g a b c = 0 := by
  have : ¬ (g = 1 ∨ g = 2 ∨ g = 3) := fun hh => by rw [(gen_iff g).2 hh] at h; cases h
  unfold tr
  rw [if_neg (by omega), if_neg (by omega), if_neg (by omega)]

set_option maxHeartbeats 800000 in
theorem Gen_c (w : World) (g : Int) : Calls Tryz.prog 70 #[.int .i64 g] w fun e w' => e = .returned (.bool (gen g)) ∧ w = w' := by
  obtain ⟨b, hb⟩ : ∃ b, b = gen g := ⟨_, rfl⟩
  have HB : Hid (b = true ↔ 1 ≤ g ∧ g ≤ 3) := by rw [hb]; unfold gen; rw [decide_eq_true_eq]; exact Iff.rfl
  rw [← hb]
  clear hb
  by_cases h1 : 1 ≤ g
  · by_cases h2 : g ≤ 3
    · obtain rfl : b = true := HB.out.2 ⟨h1, h2⟩
      go_enter Tryz.func70, Tryz.ntmps70
      go_wp2
      go_ret
      exact ⟨rfl, rfl⟩
    · obtain rfl : b = false := by rw [← Bool.not_eq_true]; intro h; have := HB.out.1 h; omega
      go_enter Tryz.func70, Tryz.ntmps70
      go_wp2
      go_ret
      exact ⟨rfl, rfl⟩
  · obtain rfl : b = false := by rw [← Bool.not_eq_true]; intro h; have := HB.out.1 h; omega
    go_enter Tryz.func70, Tryz.ntmps70
    go_wp2
    go_ret
    exact ⟨rfl, rfl⟩

set_option maxHeartbeats 800000 in
theorem trait_c (w : World) (g x y z : Int) : Calls Tryz.prog 90 #[.int .i64 g, .int .i64 x, .int .i64 y, .int .i64 z] w fun e w' => e = .returned (.int .i64 (tr g x y z)) ∧ w = w' := by
  by_cases h1 : g = 1
  · subst h1
    go_enter Tryz.func90, Tryz.ntmps90
    go_wp2
    go_ret
    exact ⟨rfl, rfl⟩
  by_cases h2 : g = 2
  · subst h2
    go_enter Tryz.func90, Tryz.ntmps90
    go_wp2
    go_ret
    exact ⟨rfl, rfl⟩
  by_cases h3 : g = 3
  · subst h3
    go_enter Tryz.func90, Tryz.ntmps90
    go_wp2
    go_ret
    exact ⟨rfl, rfl⟩
  have HT : Hid (tr g x y z = 0) := by show _ = _; unfold tr; rw [if_neg h1, if_neg h2, if_neg h3]
  go_enter Tryz.func90, Tryz.ntmps90
  go_wp2
  go_ret
  exact ⟨by rw [HT.out]; rfl, rfl⟩

def hasOf (g : Int) : Value := .agg #[.int .i64 (tr g 16 20 24), .int .i64 (tr g 400 800 1600), .int .i64 (tr g 4 8 8), .int .i64 (tr g 8 16 16)]
set_option maxHeartbeats 1600000 in
theorem has_c (w : World) (g : Int) (hg : Gens w) : Calls Tryz.prog 107 #[.int .i64 g] w (Told w (hasOf g)) := by
  by_cases hi : gen g = true
  · rcases (gen_iff g).1 hi with rfl | rfl | rfl
    · have q0 := hg.2 4 _ rfl
      have q1 := hg.2 5 _ rfl
      have q2 := hg.2 6 _ rfl
      have q3 := hg.2 7 _ rfl
      have hp := hg.1
      clear hg hi
      go_enter Tryz.func107, Tryz.ntmps107
      go_wp2
      exact bodyPost_ret (v := .agg #[.int .i64 16, .int .i64 400, .int .i64 4, .int .i64 8]) (by simp [results, Tryz.results107, go_sem]) rfl ⟨rfl, (Only.refl _ w).alloc (fun _ h => h) _⟩
    · have q0 := hg.2 8 _ rfl
      have q1 := hg.2 9 _ rfl
      have q2 := hg.2 10 _ rfl
      have q3 := hg.2 11 _ rfl
      have hp := hg.1
      clear hg hi
      go_enter Tryz.func107, Tryz.ntmps107
      go_wp2
      exact bodyPost_ret (v := .agg #[.int .i64 20, .int .i64 800, .int .i64 8, .int .i64 16]) (by simp [results, Tryz.results107, go_sem]) rfl ⟨rfl, (Only.refl _ w).alloc (fun _ h => h) _⟩
    · have q0 := hg.2 12 _ rfl
      have q1 := hg.2 13 _ rfl
      have q2 := hg.2 14 _ rfl
      have q3 := hg.2 15 _ rfl
      have hp := hg.1
      clear hg hi
      go_enter Tryz.func107, Tryz.ntmps107
      go_wp2
      exact bodyPost_ret (v := .agg #[.int .i64 24, .int .i64 1600, .int .i64 8, .int .i64 16]) (by simp [results, Tryz.results107, go_sem]) rfl ⟨rfl, (Only.refl _ w).alloc (fun _ h => h) _⟩
  · have HG := Lib.hid (show gen g = false by simpa using hi)
    have HE : Hid (hasOf g = .agg #[.int .i64 0, .int .i64 0, .int .i64 0, .int .i64 0]) := by show _ = _; unfold hasOf; rw [tr_no HG.out, tr_no HG.out, tr_no HG.out, tr_no HG.out]
    clear hi hg
    go_enter Tryz.func107, Tryz.ntmps107
    go_wp2_with (go_at_call 70; refine (Gen_c _ g).mono ?_; rintro e w1 ⟨rfl, rfl⟩; rw [HG.out])
    exact bodyPost_ret (v := .agg #[.int .i64 0, .int .i64 0, .int .i64 0, .int .i64 0]) (by simp [results, Tryz.results107, go_sem]) rfl ⟨by rw [HE.out], (Only.refl _ w).alloc (fun _ h => h) _⟩

theorem field0 (a b c d : Int) (W : World) : (Instr.field 161 (.agg #[.int .i64 a, .int .i64 b, .int .i64 c, .int .i64 d]) 0).run Tryz.prog W = .ok (.int .i64 a) W := by kernel_rfl
theorem field2 (a b c d : Int) (W : World) : (Instr.field 161 (.agg #[.int .i64 a, .int .i64 b, .int .i64 c, .int .i64 d]) 2).run Tryz.prog W = .ok (.int .i64 c) W := by kernel_rfl
set_option maxHeartbeats 800000 in
theorem MaxKey_c (w : World) (g : Int) (hg : Gens w) : Calls Tryz.prog 92 #[.int .i64 g] w (Told w (.int .i64 (tr g 16 20 24))) := by
  have HG := Lib.hid hg
  clear hg
  have hfd : ∀ W, (Instr.field 161 (.agg #[.int .i64 (tr g 16 20 24), .int .i64 (tr g 400 800 1600), .int .i64 (tr g 4 8 8), .int .i64 (tr g 8 16 16)]) 0).run Tryz.prog W = .ok (.int .i64 (tr g 16 20 24)) W := fun W => field0 _ _ _ _ W
  go_enter Tryz.func92, Tryz.ntmps92
  go_wp2_with (go_at_call 107; refine (has_c _ g HG.out).mono ?_; rintro e w1 ⟨rfl, ho⟩; have HO := Lib.hid ho; clear ho; unfold hasOf)
  go_ret
  exact ⟨rfl, HO.out⟩
set_option maxHeartbeats 800000 in
theorem rMaxKey_c (w : World) (g : Int) : Calls Tryz.prog 66 #[.int .i64 g] w fun e w' => e = .returned (.int .i64 (tr g 16 20 24)) ∧ w = w' := by
  go_enter Tryz.func66, Tryz.ntmps66
  go_wp2_with (go_at_call 90; refine (trait_c _ g 16 20 24).mono ?_; rintro e w1 ⟨rfl, rfl⟩)
  go_ret
  exact ⟨rfl, rfl⟩

set_option maxHeartbeats 800000 in
theorem IdWidth_c (w : World) (g : Int) (hg : Gens w) : Calls Tryz.prog 100 #[.int .i64 g] w (Told w (.int .i64 (tr g 4 8 8))) := by
  have HG := Lib.hid hg
  clear hg
  have hfd : ∀ W, (Instr.field 161 (.agg #[.int .i64 (tr g 16 20 24), .int .i64 (tr g 400 800 1600), .int .i64 (tr g 4 8 8), .int .i64 (tr g 8 16 16)]) 2).run Tryz.prog W = .ok (.int .i64 (tr g 4 8 8)) W := fun W => field2 _ _ _ _ W
  go_enter Tryz.func100, Tryz.ntmps100
  go_wp2_with (go_at_call 107; refine (has_c _ g HG.out).mono ?_; rintro e w1 ⟨rfl, ho⟩; have HO := Lib.hid ho; clear ho; unfold hasOf)
  go_ret
  exact ⟨rfl, HO.out⟩
set_option maxHeartbeats 800000 in
theorem rIdWidth_c (w : World) (g : Int) : Calls Tryz.prog 67 #[.int .i64 g] w fun e w' => e = .returned (.int .i64 (tr g 4 8 8)) ∧ w = w' := by
  go_enter Tryz.func67, Tryz.ntmps67
  go_wp2_with (go_at_call 90; refine (trait_c _ g 4 8 8).mono ?_; rintro e w1 ⟨rfl, rfl⟩)
  go_ret
  exact ⟨rfl, rfl⟩

end Go.Proofs.YtbpldkhgiddmlaaGreatDoor

/-
  How two keys stand: bytes.Compare, item.Compare, and the document's.
-/
set_option linter.unusedVariables false
namespace Go.Proofs.YtbpldkhgiddmlaaGreatDoor
open Go.RowKit

end Go.Proofs.YtbpldkhgiddmlaaGreatDoor

/-
  What the program, and what the document, says of one item: by plain functions of its lengths and numbers.
-/
set_option linter.unusedVariables false
namespace Go.Proofs.YtbpldkhgiddmlaaGreatDoor
open Go.RowKit

theorem Blk.later {w w' : World} {g : Nat} {t : TypeId} {cs : List Value} (h : Blk w g t cs) (ho : Only (w.heap.size ≤ ·) w w') : Blk w' g t cs := h.only ho (by have := h.lt; omega)
theorem Blk.four {w : World} {g : Nat} {t : TypeId} {a b c d : Value} (h : Blk w g t [a, b, c, d]) : w.cell? ⟨g, 0, none⟩ = some a ∧ w.cell? ⟨g, 1, none⟩ = some b ∧ w.cell? ⟨g, 2, none⟩ = some c ∧ w.cell? ⟨g, 3, none⟩ = some d := ⟨h.cell 0, h.cell 1, h.cell 2, h.cell 3⟩

def far (m : Nat) (r : Int) : Bool := decide (r ≠ 0 ∨ 32 < m)
def long (m : Nat) (s r : Int) : Int := if r = 0 then (m : Int) else s
def keyOk (g : Int) (n : Nat) : Bool := decide (1 ≤ n ∧ (n : Int) ≤ tr g 16 20 24)
def why (g : Int) (n m : Nat) : Int := if gen g = true then (if keyOk g n = true then (if (m : Int) ≤ tr g 400 800 1600 then 0 else 51) else 50) else 1
def room (g : Int) (n m : Nat) (r : Int) : Int := if gen g = true then 4 + n + (if far m r = true then tr g 4 8 8 else (m : Int)) else 0
def kid (g : Int) (n : Nat) : Int := if gen g = true then 1 + n + tr g 4 8 8 else 0

section
variable (w : World) (A B : Option Addr) (n c m d : Nat) (s r : Int)

end
section
variable (w : World) (A B : Option Addr) (n c m d : Nat) (s r g : Int)

end
end Go.Proofs.YtbpldkhgiddmlaaGreatDoor

/-
  Of, Same of the program; Same of the document.
-/
set_option linter.unusedVariables false
namespace Go.Proofs.YtbpldkhgiddmlaaGreatDoor
open Go.RowKit

/-- A slice value of the call's own (from block b on) that holds these bytes. -/
def New (w : World) (b : Nat) (v : Value) (xs : Bytes) : Prop := ∃ A c, v = .slice A xs.length c ∧ Txt w A xs.length xs ∧ (A = none → c = 0) ∧ xs.length ≤ c ∧ c ≤ 9223372036854775807 ∧ ∀ ad, A = some ad → b ≤ ad.block ∧ ad.block < w.heap.size
theorem New.src {w : World} {b : Nat} {v : Value} {xs : Bytes} (h : New w b v xs) : Src w v xs := by
  obtain ⟨A, c, h1, h2, h3, h4, h5, _⟩ := h
  exact ⟨A, c, h1, h2, h3, h4, h5⟩
theorem New.keep {w w' : World} {F : Nat → Prop} {b : Nat} {v : Value} {xs : Bytes} (h : New w b v xs) (ho : Only F w w') (hF : ∀ k, b ≤ k → k < w.heap.size → ¬ F k) : New w' b v xs := by
  obtain ⟨A, c, h1, h2, h3, h4, h5, h6⟩ := h
  exact ⟨A, c, h1, h2.only ho (fun ad _ e => hF ad.block (h6 ad e).1 (h6 ad e).2), h3, h4, h5, fun ad e => ⟨(h6 ad e).1, Nat.lt_of_lt_of_le (h6 ad e).2 ho.size⟩⟩
theorem New.later {w w' : World} {b : Nat} {v : Value} {xs : Bytes} (h : New w b v xs) (ho : Only (w.heap.size ≤ ·) w w') : New w' b v xs := h.keep ho fun k _ h => Nat.not_le.2 h
theorem New.mono {w : World} {b b' : Nat} {v : Value} {xs : Bytes} (h : New w b v xs) (hb : b' ≤ b) : New w b' v xs := by
  obtain ⟨A, c, h1, h2, h3, h4, h5, h6⟩ := h
  exact ⟨A, c, h1, h2, h3, h4, h5, fun ad e => ⟨Nat.le_trans hb (h6 ad e).1, (h6 ad e).2⟩⟩
theorem New.own {w : World} {b n : Nat} {v : Value} {xs : Bytes} (h : w.ownsRow b 5 1 v n (cb xs)) : New w b v xs := by
  obtain ⟨A, c, h1, h2, h3, h4, h5, h6⟩ := txt_of_own h
  obtain rfl : xs.length = n := h2.1
  exact ⟨A, c, h1, h2, fun e => (h3 e).2, h4, by simp only [maxLen] at h5; omega, h6⟩

theorem New.form {w : World} {b n : Nat} {v : Value} {xs : Bytes} (h : w.ownsRow b 5 1 v n (cb xs)) : ∃ A c, v = .slice A xs.length c ∧ New w b (.slice A xs.length c) xs := by
  obtain ⟨A, c, h1, h2⟩ := New.own h
  exact ⟨A, c, h1, A, c, rfl, h2⟩

end Go.Proofs.YtbpldkhgiddmlaaGreatDoor

/-
  Same, by the program and by the document.
-/
set_option linter.unusedVariables false
namespace Go.Proofs.YtbpldkhgiddmlaaGreatDoor
open Go.RowKit

theorem Equal_b (w : World) (v u : Value) (xs ys : Bytes) (b : Bool) (h : Src w v xs) (h' : Src w u ys) (hb : decide (xs = ys) = b) : Calls Tryz.prog 29 #[v, u] w fun e w' => e = .returned (.bool b) ∧ w = w' := by
  rw [← hb]; exact Equal_c w v u xs ys h h'
section
variable (w : World) (A B A' B' : Option Addr) (n c m d n' c' m' d' : Nat) (s r s' r' : Int) (xs ys xs' ys' : Bytes)
end
end Go.Proofs.YtbpldkhgiddmlaaGreatDoor

/-
  Right, Room, KidRoom of the program.
-/
set_option linter.unusedVariables false
namespace Go.Proofs.YtbpldkhgiddmlaaGreatDoor
open Go.RowKit

section
variable (w : World) (A B : Option Addr) (n c m d : Nat) (s r g : Int)

end
end Go.Proofs.YtbpldkhgiddmlaaGreatDoor

/-
  Room of the program.
-/
set_option linter.unusedVariables false
namespace Go.Proofs.YtbpldkhgiddmlaaGreatDoor
open Go.RowKit

section
variable {P : Program} {ops : Array Oper} {Q : Exit → Act → World → Prop} {md : Region.Mode} {S : World → Prop}
/-- An operation that is wanted and reads alone, taken next; its slot is named. -/
theorem take_one {i d : Nat} {oi : Oper} {v : Value} {fuel : Nat} {listed : Array Bool} {a : Act} {w : World} (hi : ops[i]? = some oi)
    (hs : Region.noSelect ops = true) (hf : Region.free md ops listed i = true) (hr : (Region.ready md ops listed).contains i = true)
    (hQ : ∀ c a w, Q (.panic c) (a.put (some d) v) w → Q (.panic c) a w) (hd : oi.dst = some d) (hw : Region.wanted oi (yielded ops a.tmps) = true) (hy : ∀ w, S w → (execOp a.eval oi).run P w = .ok (.value v) w) (hS : S w)
    (h : wpAnyH P md ops Q S fuel (listed.setIfInBounds i true) (a.put (some d) v) w) : wpAnyH P md ops Q S (fuel + 1) listed a w :=
  wpAnyH_take hi hs hf hr (by rw [hd]; exact hQ) (.inl ⟨hw, hy⟩) hS (by rw [hd]; exact h)
/-- One that is not wanted. -/
theorem take_skip {i d : Nat} {oi : Oper} {fuel : Nat} {listed : Array Bool} {a : Act} {w : World} (hi : ops[i]? = some oi)
    (hs : Region.noSelect ops = true) (hf : Region.free md ops listed i = true) (hr : (Region.ready md ops listed).contains i = true)
    (hQ : ∀ c a w, Q (.panic c) (a.put (some d) undef) w → Q (.panic c) a w) (hd : oi.dst = some d) (hw : Region.wanted oi (yielded ops a.tmps) = false) (hS : S w)
    (h : wpAnyH P md ops Q S fuel (listed.setIfInBounds i true) (a.put (some d) undef) w) : wpAnyH P md ops Q S (fuel + 1) listed a w :=
  wpAnyH_take hi hs hf hr (by rw [hd]; exact hQ) (.inr ⟨hw, rfl⟩) hS (by rw [hd]; exact h)
end

section
variable (w : World) (A B : Option Addr) (n c m d : Nat) (s r g : Int)
end
end Go.Proofs.YtbpldkhgiddmlaaGreatDoor

/-
  Rows of elements that take several cells: what a slice's address holds, cell by cell and by its meaning; items, kids, nodes, pieces.
-/
set_option linter.unusedVariables false
namespace Go.Proofs.YtbpldkhgiddmlaaGreatDoor
open Go.RowKit

/-- The address holds these cells. -/
def Raw (w : World) (A : Option Addr) (C : List Value) : Prop := 0 < C.length → ∃ b off, A = some ⟨b, off, none⟩ ∧ b < w.heap.size ∧ ∀ j u, C[j]? = some u → w.cell? ⟨b, off + j, none⟩ = some u
section
variable {w w' : World} {A : Option Addr} {C : List Value}
theorem Raw.nil_ (w : World) (A : Option Addr) : Raw w A [] := fun h => absurd h (by decide)
theorem Raw.later (h : Raw w A C) (ho : Only (w.heap.size ≤ ·) w w') : Raw w' A C := fun hn => by
  obtain ⟨b, off, e, hb, hc⟩ := h hn
  exact ⟨b, off, e, Nat.lt_of_lt_of_le hb ho.size, fun j u hu => (ho.cell (p := ⟨b, off + j, none⟩) (Nat.not_le.2 hb)).trans (hc j u hu)⟩
theorem Raw.on (h : Raw w A C) {F : Nat → Prop} (ho : Only F w w') (hF : ∀ b off, 0 < C.length → A = some ⟨b, off, none⟩ → ¬ F b) : Raw w' A C := fun hn => by
  obtain ⟨b, off, e, hb, hc⟩ := h hn
  exact ⟨b, off, e, Nat.lt_of_lt_of_le hb ho.size, fun j u hu => (ho.cell (p := ⟨b, off + j, none⟩) (hF b off hn e)).trans (hc j u hu)⟩
theorem Raw.take (h : Raw w A C) (k : Nat) : Raw w A (C.take k) := fun hn => by
  obtain ⟨b, off, e, hb, hc⟩ := h (by simp at hn; omega)
  refine ⟨b, off, e, hb, fun j u hu => hc j u ?_⟩
  rw [List.getElem?_take] at hu
  split at hu
  · exact hu
  · cases hu
theorem Raw.src (h : Raw w A C) : ∀ ad, A = some ad → ∀ j u, C[j]? = some u → w.cell? (ad.add j) = some u := by
  intro ad e j u hu
  have hj : j < C.length := (List.getElem?_eq_some_iff.1 hu).1
  obtain ⟨b, off, e', _, hc⟩ := h (by omega)
  rw [e] at e'
  cases e'
  rw [Addr.add_lit]
  exact hc j u hu
theorem Raw.blk {g : Nat} {t : TypeId} {rest : List Value} (h : Blk w g t (C ++ rest)) : Raw w (some ⟨g, 0, none⟩) C := fun hn => by
  refine ⟨_, _, rfl, h.lt, fun j u hu => ?_⟩
  have hj := (List.getElem?_eq_some_iff.1 hu).1
  rw [h.cell, Nat.zero_add, List.getElem?_append_left hj]
  exact hu
end

/-- A kind of element: how many cells; which cells mean which element. -/
structure El (α : Type) where
  z : Nat
  At : World → α → List Value → Prop
  len : ∀ {w x cs}, At w x cs → cs.length = z
  one : ∀ {w x cs}, At w x cs → ∀ u ∈ cs, u.oneCell' = true
  later : ∀ {w w' x cs}, At w x cs → Only (w.heap.size ≤ ·) w w' → At w' x cs

/-- These cells are these elements, one behind the other. -/
def Den {α : Type} (At : α → List Value → Prop) : List α → List Value → Prop
  | [], C => C = []
  | x :: l, C => ∃ cs D, C = cs ++ D ∧ At x cs ∧ Den At l D
section
variable {α : Type} {At At' : α → List Value → Prop}
theorem Den.mono (hA : ∀ x cs, At x cs → At' x cs) : ∀ {l : List α} {C : List Value}, Den At l C → Den At' l C
  | [], _, h => h
  | _ :: _, _, ⟨cs, D, e, h1, h2⟩ => ⟨cs, D, e, hA _ _ h1, Den.mono hA h2⟩
theorem Den.append : ∀ {l m : List α} {C D : List Value}, Den At l C → Den At m D → Den At (l ++ m) (C ++ D)
  | [], _, _, _, h, k => by
    obtain rfl : _ = [] := h
    exact k
  | _ :: _, _, _, _, ⟨cs, E, e, h1, h2⟩, k => ⟨cs, E ++ _, by rw [e, List.append_assoc], h1, Den.append h2 k⟩
theorem Den.single {x : α} {cs : List Value} (h : At x cs) : Den At [x] cs := ⟨cs, [], by simp, h, rfl⟩
theorem Den.length {z : Nat} (hz : ∀ x cs, At x cs → cs.length = z) : ∀ {l : List α} {C : List Value}, Den At l C → C.length = l.length * z
  | [], _, h => by
    obtain rfl : _ = [] := h
    simp
  | _ :: _, _, ⟨cs, D, e, h1, h2⟩ => by
    have := Den.length hz h2
    have := hz _ _ h1
    rw [e, List.length_append, List.length_cons, Nat.succ_mul]
    omega
theorem Den.one (h1 : ∀ x cs, At x cs → ∀ u ∈ cs, u.oneCell' = true) : ∀ {l : List α} {C : List Value}, Den At l C → ∀ u ∈ C, u.oneCell' = true
  | [], _, h => by
    obtain rfl : _ = [] := h
    simp
  | _ :: _, _, ⟨cs, D, e, hx, h2⟩ => by
    intro u hu
    rw [e, List.mem_append] at hu
    rcases hu with hu | hu
    · exact h1 _ _ hx u hu
    · exact Den.one h1 h2 u hu
theorem Den.drop {z : Nat} (hz : ∀ x cs, At x cs → cs.length = z) : ∀ (k : Nat) {l : List α} {C : List Value}, Den At l C → Den At (l.drop k) (C.drop (k * z))
  | 0, _, _, h => by simpa using h
  | k + 1, [], _, h => by
    obtain rfl : _ = [] := h
    simp [Den]
  | k + 1, _ :: _, _, ⟨cs, D, e, h1, h2⟩ => by
    have hl := hz _ _ h1
    rw [e, List.drop_succ_cons, show (k + 1) * z = cs.length + k * z by rw [Nat.succ_mul]; omega, ← List.drop_drop, List.drop_left]
    exact Den.drop hz k h2
theorem Den.take {z : Nat} (hz : ∀ x cs, At x cs → cs.length = z) : ∀ (k : Nat) {l : List α} {C : List Value}, Den At l C → Den At (l.take k) (C.take (k * z))
  | 0, _, _, h => by simp [Den]
  | k + 1, [], _, h => by
    obtain rfl : _ = [] := h
    simp [Den]
  | k + 1, _ :: _, _, ⟨cs, D, e, h1, h2⟩ => by
    have hl := hz _ _ h1
    refine ⟨cs, D.take (k * z), ?_, h1, Den.take hz k h2⟩
    rw [e, show (k + 1) * z = cs.length + k * z by rw [Nat.succ_mul]; omega, List.take_length_add_append]
theorem Den.get {z : Nat} (hz : ∀ x cs, At x cs → cs.length = z) : ∀ {k : Nat} {l : List α} {C : List Value} {x : α}, Den At l C → l[k]? = some x → ∃ cs, At x cs ∧ ∀ j u, cs[j]? = some u → C[k * z + j]? = some u
  | _, [], _, _, _, hx => by simp at hx
  | 0, y :: l, C, x, ⟨cs, D, e, h1, h2⟩, hx => by
    simp at hx
    subst hx
    exact ⟨cs, h1, fun j u hu => by rw [e, Nat.zero_mul, Nat.zero_add, List.getElem?_append_left (List.getElem?_eq_some_iff.1 hu).1]; exact hu⟩
  | k + 1, y :: l, C, x, ⟨cs, D, e, h1, h2⟩, hx => by
    simp at hx
    obtain ⟨ds, hd, hg⟩ := Den.get hz h2 hx
    refine ⟨ds, hd, fun j u hu => ?_⟩
    have hl := hz _ _ h1
    rw [e, List.getElem?_append_right (by rw [Nat.succ_mul]; omega), ← hg j u hu]
    congr 1
    rw [Nat.succ_mul]
    omega
end

/-- A slice value that holds these elements. -/
def Rw {α : Type} (E : El α) (w : World) (v : Value) (l : List α) : Prop := ∃ A c C, v = .slice A l.length c ∧ Den (E.At w) l C ∧ Raw w A C ∧ (A = none → c = 0) ∧ l.length ≤ c ∧ c ≤ 9223372036854775807
section
variable {α : Type} {E : El α} {w w' : World} {v : Value} {l : List α}
theorem Rw.later (h : Rw E w v l) (ho : Only (w.heap.size ≤ ·) w w') : Rw E w' v l := by
  obtain ⟨A, c, C, h1, h2, h3, h4⟩ := h
  exact ⟨A, c, C, h1, h2.mono fun x cs hx => E.later hx ho, h3.later ho, h4⟩
theorem Rw.nil_ (w : World) : Rw E w (.slice none 0 0) ([] : List α) := ⟨none, 0, [], rfl, rfl, Raw.nil_ _ _, fun _ => rfl, Nat.le_refl _, by omega⟩
theorem Rw.len {A : Option Addr} {n c : Nat} (h : Rw E w (.slice A n c) l) : n = l.length := by
  obtain ⟨A', c', C, e, _⟩ := h
  simp only [Value.slice.injEq] at e
  exact e.2.1
theorem Rw.cap {A : Option Addr} {n c : Nat} (h : Rw E w (.slice A n c) l) : n ≤ c ∧ c ≤ 9223372036854775807 ∧ (A = none → c = 0) := by
  obtain ⟨A', c', C, e, _, _, h1, h2, h3⟩ := h
  simp only [Value.slice.injEq] at e
  obtain ⟨rfl, rfl, rfl⟩ := e
  exact ⟨h2, h3, h1⟩
theorem Rw.at_ {A : Option Addr} {n c k : Nat} (hz : 0 < E.z) (h : Rw E w (.slice A n c) l) (hk : k < n) : ∃ b off x cs, A = some ⟨b, off, none⟩ ∧ b < w.heap.size ∧ l[k]? = some x ∧ E.At w x cs ∧ ∀ j u, cs[j]? = some u → w.cell? ⟨b, off + (k * E.z + j), none⟩ = some u := by
  have hn := h.len
  obtain ⟨A', c', C, e, hd, hr, _⟩ := h
  simp only [Value.slice.injEq] at e
  obtain ⟨rfl, _, rfl⟩ := e
  have hx : l[k]? = some l[k] := List.getElem?_eq_getElem (by omega)
  obtain ⟨cs, hcs, hg⟩ := hd.get (fun _ _ => E.len) hx
  have hl := Den.length (fun _ _ => E.len) hd
  obtain ⟨b, off, e2, hb, hc⟩ := hr (by rw [hl]; exact Nat.mul_pos (by omega) hz)
  exact ⟨b, off, _, cs, e2, hb, hx, hcs, fun j u hu => hc _ _ (hg j u hu)⟩
end
/-- A row of the call's own, of n elements. -/
def Own {α : Type} (E : El α) (t : TypeId) (w : World) (B : Nat) (v : Value) (n : Nat) (l : List α) : Prop := n = l.length ∧ ∃ C, Den (E.At w) l C ∧ w.ownsRow B t E.z v n C
theorem own_later {w W : World} {B s n : Nat} {t : TypeId} {v : Value} {xs : List Value} (h : w.ownsRow B t s v n xs) (ho : Only (w.heap.size ≤ ·) w W) : W.ownsRow B t s v n xs :=
  World.ownsRow.kept h (row := none) ⟨ho.os, ho.tape, ho.output, ho.size, fun k hk _ => ho.block k (Nat.not_le.2 hk)⟩ (by cases hv : v.ownBlock <;> simp)
theorem raw_of_own {w : World} {B s n : Nat} {t : TypeId} {v : Value} {xs : List Value} (h : w.ownsRow B t s v n xs) : ∃ A c, v = .slice A n c ∧ Raw w A xs ∧ (A = none → c = 0) ∧ n ≤ c ∧ c ≤ 9223372036854775807 ∧ (∀ ad, A = some ad → ∃ g, ad = ⟨g, 0, none⟩ ∧ v.ownBlock = some g ∧ B ≤ g ∧ g < w.heap.size) := by
  have h' := h
  rcases h'.2 with ⟨rfl, hz⟩ | ⟨g, cap, cur, rfl, hb, hg, hc, hm, _, _⟩
  · subst hz
    obtain rfl : xs = [] := List.eq_nil_of_length_eq_zero (by simpa using h'.1)
    exact ⟨none, 0, rfl, Raw.nil_ _ _, fun _ => rfl, Nat.le_refl _, by omega, fun ad e => by cases e⟩
  · have hlt := (Array.getElem?_eq_some_iff.1 hg).1
    exact ⟨some ⟨g, 0, none⟩, cap, rfl, fun hn => ⟨_, _, rfl, hlt, fun j u hu => by have := h'.cells (g := g) rfl j u hu; rwa [Addr.add_lit] at this⟩, (fun e => by cases e), hc, by simpa only [maxLen] using hm, fun ad e => by cases e; exact ⟨g, rfl, rfl, hb, hlt⟩⟩
section
variable {α : Type} {E : El α} {w w' : World} {v : Value} {l : List α} {t : TypeId} {B n : Nat}
theorem Own.later (h : Own E t w B v n l) (ho : Only (w.heap.size ≤ ·) w w') : Own E t w' B v n l := by
  obtain ⟨h1, C, h2, h3⟩ := h
  exact ⟨h1, C, h2.mono fun x cs hx => E.later hx ho, own_later h3 ho⟩
theorem Own.rw_ (h : Own E t w B v n l) : Rw E w v l := by
  obtain ⟨rfl, C, h2, h3⟩ := h
  obtain ⟨A, c, rfl, hr, h4, h5, h6, _⟩ := raw_of_own h3
  exact ⟨A, c, C, rfl, h2, hr, h4, h5, h6⟩
theorem Own.nil_ (w : World) (B : Nat) : Own E t w B (.slice none 0 0) 0 ([] : List α) := ⟨rfl, [], rfl, World.ownsRow_nil _ _ _ _⟩
end

abbrev It := Bytes × Bytes × Int × Int
abbrev Kd := Bytes × Int
theorem Src.one {w : World} {v : Value} {xs : Bytes} (h : Src w v xs) : v.oneCell' = true := by
  obtain ⟨A, c, rfl, _⟩ := h
  rfl
def itE : El It where
  z := 4
  At w x cs := ∃ A c B d, cs = [.slice A x.1.length c, .slice B x.2.1.length d, .int .i64 x.2.2.1, .int .i64 x.2.2.2] ∧ Src w (.slice A x.1.length c) x.1 ∧ Src w (.slice B x.2.1.length d) x.2.1
  len := fun ⟨A, c, B, d, e, _⟩ => by rw [e]; rfl
  one := fun ⟨A, c, B, d, e, _⟩ u hu => by
    rw [e] at hu
    simp at hu
    rcases hu with rfl | rfl | rfl | rfl <;> rfl
  later := fun ⟨A, c, B, d, e, h1, h2⟩ ho => ⟨A, c, B, d, e, h1.later ho, h2.later ho⟩
def kdE : El Kd where
  z := 2
  At w x cs := ∃ A c, cs = [.slice A x.1.length c, .int .i64 x.2] ∧ Src w (.slice A x.1.length c) x.1
  len := fun ⟨A, c, e, _⟩ => by rw [e]; rfl
  one := fun ⟨A, c, e, _⟩ u hu => by
    rw [e] at hu
    simp at hu
    rcases hu with rfl | rfl <;> rfl
  later := fun ⟨A, c, e, h1⟩ ho => ⟨A, c, e, h1.later ho⟩
abbrev Its := Rw itE
abbrev Kds := Rw kdE

section
variable {w : World} {A : Option Addr} {n c k : Nat}
end

/-- A node: a leaf, or not; its items; its kids. -/
structure Nd where
  leaf : Bool
  its : List It
  kds : List Kd
/-- The three parts of a node's value. -/
def Nod (w : World) (x : Nd) (f : Bool) (v u : Value) : Prop := f = x.leaf ∧ Its w v x.its ∧ Kds w u x.kds
theorem Nod.later {w w' : World} {x : Nd} {f : Bool} {v u : Value} (h : Nod w x f v u) (ho : Only (w.heap.size ≤ ·) w w') : Nod w' x f v u := ⟨h.1, h.2.1.later ho, h.2.2.later ho⟩
theorem Nod.out {w : World} {x : Nd} {f : Bool} {v u : Value} (h : Nod w x f v u) : ∃ A c B d, v = .slice A x.its.length c ∧ u = .slice B x.kds.length d := by
  obtain ⟨_, ⟨A, c, _, h1, _⟩, ⟨B, d, _, h2, _⟩⟩ := h
  exact ⟨A, c, B, d, h1, h2⟩
abbrev Pt := Bytes × Nd
end Go.Proofs.YtbpldkhgiddmlaaGreatDoor

/-
  Nodes as plain data: how much room they take, how they are cut, what the pieces are.
-/
set_option linter.unusedVariables false
namespace Go.Proofs.YtbpldkhgiddmlaaGreatDoor
open Go.RowKit

def irm (g : Int) (x : It) : Int := room g x.1.length x.2.1.length x.2.2.2
def krm (g : Int) (x : Kd) : Int := kid g x.1.length
def rms (g : Int) (x : Nd) : List Int := if x.leaf = true then x.its.map (irm g) else x.kds.map (krm g)
def many (x : Nd) : Nat := if x.leaf = true then x.its.length else x.kds.length
theorem rms_length (g : Int) (x : Nd) : (rms g x).length = many x := by unfold rms many; split <;> simp
def nrm (g : Int) (x : Nd) : Int := (rms g x).sum
def nfit (g : Int) (x : Nd) : Bool := decide (nrm g x ≤ tr g 248 240 240)

/-- How much the first k take. -/
def pre (l : List Int) (k : Nat) : Int := (l.take k).sum
/-- Every number is at least 0 and at most b. -/
def Each (b : Int) (l : List Int) : Prop := ∀ a ∈ l, 0 ≤ a ∧ a ≤ b
theorem Each.sum {b : Int} (hb : 0 ≤ b) : ∀ {l : List Int}, Each b l → 0 ≤ l.sum ∧ l.sum ≤ l.length * b
  | [], _ => by simp
  | a :: l, h => by
    have h1 := h a (by simp)
    have h2 := Each.sum hb (fun x hx => h x (List.mem_cons_of_mem _ hx) : Each b l)
    rw [List.sum_cons, List.length_cons]
    have e : ((l.length + 1 : Nat) : Int) * b = l.length * b + b := by rw [Int.natCast_succ, Int.add_mul, Int.one_mul]
    rw [e]
    omega
theorem Each.pre {b : Int} (hb : 0 ≤ b) {l : List Int} (h : Each b l) (k : Nat) : 0 ≤ pre l k ∧ Proofs.YtbpldkhgiddmlaaGreatDoor.pre l k ≤ l.sum := by
  have h1 : Each b (l.take k) := fun a ha => h a (List.mem_of_mem_take ha)
  have h2 : Each b (l.drop k) := fun a ha => h a (List.mem_of_mem_drop ha)
  have e : l.sum = (l.take k).sum + (l.drop k).sum := by rw [← List.sum_append, List.take_append_drop]
  have := (Each.sum hb h1).1
  have := (Each.sum hb h2).1
  show 0 ≤ (l.take k).sum ∧ (l.take k).sum ≤ l.sum
  omega

/-- The place at which such a row is cut. -/
def IsMid (l : List Int) (k : Nat) : Prop := 1 ≤ k ∧ k < l.length ∧ (∀ j, 1 ≤ j → j < k → 2 * pre l j < l.sum) ∧ (l.sum ≤ 2 * pre l k ∨ k + 1 = l.length)
def headK (key : Bytes) : List Kd → List Kd
  | [] => []
  | x :: l => (key, x.2) :: l
theorem headK_length (key : Bytes) : ∀ l, (headK key l).length = l.length
  | [] => rfl
  | _ :: _ => rfl
def fstN (k : Nat) (x : Nd) : Nd := if x.leaf = true then ⟨true, x.its.take k, []⟩ else ⟨false, [], x.kds.take k⟩
def sndN (k : Nat) (x : Nd) : Nd := if x.leaf = true then ⟨true, x.its.drop k, []⟩ else ⟨false, [], headK [] (x.kds.drop k)⟩
def keyN (k : Nat) (x : Nd) : Bytes := if x.leaf = true then (x.its[k]?.map (·.1)).getD [] else (x.kds[k]?.map (·.1)).getD []
theorem many_fst {k : Nat} {x : Nd} (h : k ≤ many x) : many (fstN k x) = k := by
  unfold fstN many at *
  cases hx : x.leaf <;> simp [hx] at h ⊢ <;> omega
theorem many_snd (k : Nat) (x : Nd) : many (sndN k x) = many x - k := by
  unfold sndN many
  cases hx : x.leaf <;> simp [headK_length]
/-- Which pieces a node with a key is cut into. -/
inductive Cuts (g : Int) : Bytes → Nd → List Pt → Prop
  | one (key : Bytes) (x : Nd) : nfit g x = true ∨ many x < 2 → Cuts g key x [(key, x)]
  | cut (key : Bytes) (x : Nd) (k : Nat) (l m : List Pt) : nfit g x = false → 2 ≤ many x → IsMid (rms g x) k → Cuts g key (fstN k x) l → Cuts g (keyN k x) (sndN k x) m → Cuts g key x (l ++ m)
theorem Cuts.head {g : Int} {key : Bytes} {x : Nd} {l : List Pt} (h : Cuts g key x l) : ∃ y r, l = (key, y) :: r := by
  induction h with
  | one key x hx => exact ⟨x, [], rfl⟩
  | cut key x k a b h1 h2 h3 h4 h5 ih1 ih2 =>
    obtain ⟨y, r, e⟩ := ih1
    exact ⟨y, r ++ b, by rw [e]; rfl⟩
theorem Cuts.pos {g : Int} {key : Bytes} {x : Nd} {l : List Pt} (h : Cuts g key x l) : 0 < l.length := by
  obtain ⟨y, r, rfl⟩ := h.head
  simp
theorem Cuts.most {g : Int} {key : Bytes} {x : Nd} {l : List Pt} (h : Cuts g key x l) : l.length ≤ max 1 (many x) := by
  induction h with
  | one key x hx => simp; omega
  | cut key x k a b h1 h2 h3 h4 h5 ih1 ih2 =>
    have hk := h3.2.1
    rw [rms_length] at hk
    rw [many_fst (by omega)] at ih1
    rw [many_snd] at ih2
    have := h3.1
    rw [List.length_append]
    omega
/-- Whatever holds of a node, and of both halves of one of which it holds, holds of each piece. -/
theorem Cuts.all {g : Int} {key : Bytes} {x : Nd} {l : List Pt} {P : Nd → Prop} (h : Cuts g key x l) (hP : ∀ y k, P y → 1 ≤ k → k < many y → P (fstN k y) ∧ P (sndN k y)) (hx : P x) : ∀ p ∈ l, P p.2 := by
  induction h with
  | one key x h1 => intro p hp; simp at hp; subst hp; exact hx
  | cut key x k a b h1 h2 h3 h4 h5 ih1 ih2 =>
    have hk := h3.2.1
    rw [rms_length] at hk
    have hh := hP x k hx h3.1 hk
    intro p hp
    rcases List.mem_append.1 hp with hp | hp
    · exact ih1 hh.1 p hp
    · exact ih2 hh.2 p hp
theorem Cuts.fits {g : Int} {key : Bytes} {x : Nd} {l : List Pt} (h : Cuts g key x l) : ∀ p ∈ l, nfit g p.2 = true ∨ many p.2 < 2 := by
  induction h with
  | one key x h1 => intro p hp; simp at hp; subst hp; exact h1
  | cut key x k a b h1 h2 h3 h4 h5 ih1 ih2 =>
    intro p hp
    rcases List.mem_append.1 hp with hp | hp
    · exact ih1 p hp
    · exact ih2 p hp
theorem Cuts.leaf {g : Int} {key : Bytes} {x : Nd} {l : List Pt} (h : Cuts g key x l) : ∀ p ∈ l, p.2.leaf = x.leaf :=
  h.all (P := fun y => y.leaf = x.leaf) (fun y k hy _ _ => by
    unfold fstN sndN
    rw [hy]
    cases x.leaf <;> exact ⟨rfl, rfl⟩) rfl
theorem Cuts.long {g : Int} {key : Bytes} {x : Nd} {l : List Pt} (h : Cuts g key x l) (hl : 1 < l.length) : 2 ≤ many x := by
  have := h.most
  omega
/-- A node has nothing of the other kind. -/
def Pure (x : Nd) : Prop := if x.leaf = true then x.kds = [] else x.its = []
theorem Pure.many {x : Nd} (h : Pure x) : Proofs.YtbpldkhgiddmlaaGreatDoor.many x = x.its.length + x.kds.length := by
  unfold Pure at h
  unfold Proofs.YtbpldkhgiddmlaaGreatDoor.many
  cases hx : x.leaf <;> simp [hx] at h ⊢ <;> simp [h]
theorem Cuts.two {g : Int} {key : Bytes} {x : Nd} {p q : Pt} (h : Cuts g key x [p, q]) : ∃ k, IsMid (rms g x) k ∧ p = (key, fstN k x) ∧ q = (keyN k x, sndN k x) := by
  generalize hl : [p, q] = l at h
  cases h with
  | one _ _ hx => simp at hl
  | cut _ _ k a b h1 h2 h3 h4 h5 =>
    have ha := h4.pos
    have hb := h5.pos
    have hab : a.length + b.length = 2 := by rw [← List.length_append, ← hl]; rfl
    have one : ∀ {kk : Bytes} {y : Nd} {c : List Pt}, Cuts g kk y c → c.length = 1 → c = [(kk, y)] := by
      intro kk y c hc h1
      cases hc with
      | one _ _ _ => rfl
      | cut _ _ k' a' b' _ _ _ q4 q5 =>
        have := q4.pos
        have := q5.pos
        rw [List.length_append] at h1
        omega
    have ea := one h4 (by omega)
    have eb := one h5 (by omega)
    subst ea eb
    simp only [List.cons_append, List.nil_append, List.cons.injEq, and_true] at hl
    exact ⟨k, h3, hl.1, hl.2⟩

/-- A node of which nothing is great. -/
def Small (x : Nd) : Prop := x.its.length ≤ 1000 ∧ x.kds.length ≤ 1000 ∧ (∀ i ∈ x.its, i.1.length ≤ 1000 ∧ i.2.1.length ≤ 10000) ∧ (∀ i ∈ x.kds, i.1.length ≤ 1000)
theorem headK_mem {key : Bytes} {b : Nat} (hk : key.length ≤ b) : ∀ {l : List Kd}, (∀ i ∈ l, i.1.length ≤ b) → ∀ i ∈ headK key l, i.1.length ≤ b
  | [], _ => by simp [headK]
  | x :: l, h => by
    intro i hi
    simp [headK] at hi
    rcases hi with rfl | hi
    · exact hk
    · exact h i (List.mem_cons_of_mem _ hi)
theorem Small.halves {x : Nd} (h : Small x) (k : Nat) : Small (fstN k x) ∧ Small (sndN k x) := by
  obtain ⟨h1, h2, h3, h4⟩ := h
  unfold fstN sndN
  cases x.leaf
  · refine ⟨⟨by simp, by simp; omega, by simp, fun i hi => h4 i (List.mem_of_mem_take hi)⟩, ⟨by simp, ?_, by simp, headK_mem (by simp) fun i hi => h4 i (List.mem_of_mem_drop hi)⟩⟩
    simp [headK_length]
    omega
  · exact ⟨⟨by simp; omega, by simp, fun i hi => h3 i (List.mem_of_mem_take hi), by simp⟩, ⟨by simp; omega, by simp, fun i hi => h3 i (List.mem_of_mem_drop hi), by simp⟩⟩
theorem trs (g : Int) : 0 ≤ tr g 4 8 8 ∧ tr g 4 8 8 ≤ 8 := by
  unfold tr
  split
  · omega
  · split
    · omega
    · split <;> omega
theorem irm_range (g : Int) (x : It) (h1 : x.1.length ≤ 1000) (h2 : x.2.1.length ≤ 10000) : 0 ≤ irm g x ∧ irm g x ≤ 20000 := by
  unfold irm room
  have := trs g
  split
  · split <;> omega
  · omega
theorem krm_range (g : Int) (x : Kd) (h1 : x.1.length ≤ 1000) : 0 ≤ krm g x ∧ krm g x ≤ 20000 := by
  unfold krm kid
  have := trs g
  split <;> omega
theorem Small.each {x : Nd} (h : Small x) (g : Int) : Each 20000 (rms g x) := by
  obtain ⟨h1, h2, h3, h4⟩ := h
  unfold rms
  intro a ha
  split at ha
  · simp only [List.mem_map] at ha
    obtain ⟨i, hi, rfl⟩ := ha
    exact irm_range g i (h3 i hi).1 (h3 i hi).2
  · simp only [List.mem_map] at ha
    obtain ⟨i, hi, rfl⟩ := ha
    exact krm_range g i (h4 i hi)
theorem Small.many {x : Nd} (h : Small x) : Proofs.YtbpldkhgiddmlaaGreatDoor.many x ≤ 1000 := by
  obtain ⟨h1, h2, _⟩ := h
  unfold Proofs.YtbpldkhgiddmlaaGreatDoor.many
  split <;> omega
end Go.Proofs.YtbpldkhgiddmlaaGreatDoor

/-
  slices.Grow of nil, slices.Concat of at most three rows, slices.Clone, cell by cell.
-/
set_option linter.unusedVariables false
namespace Go.Proofs.YtbpldkhgiddmlaaGreatDoor
open Go.RowKit Go.Proofs

/-- A slice value of n elements of z cells each, these cells. -/
def RawV (z : Nat) (w : World) (v : Value) (n : Nat) (C : List Value) : Prop := ∃ A c, v = .slice A n c ∧ C.length = n * z ∧ Raw w A C ∧ (A = none → c = 0) ∧ n ≤ c ∧ c ≤ 9223372036854775807 ∧ ∀ u ∈ C, u.oneCell' = true
theorem RawV.later {z n : Nat} {w w' : World} {v : Value} {C : List Value} (h : RawV z w v n C) (ho : Only (w.heap.size ≤ ·) w w') : RawV z w' v n C := by
  obtain ⟨A, c, h1, h2, h3, h4⟩ := h
  exact ⟨A, c, h1, h2, h3.later ho, h4⟩
/-- A row of the call's own comes back; these cells. -/
def OwnsR (w : World) (t : TypeId) (z n : Nat) (C : List Value) (e : Ending) (w' : World) : Prop := ∃ v, e = .returned v ∧ w'.ownsRow w.heap.size t z v n C ∧ Only (w.heap.size ≤ ·) w w'

abbrev Lst := List (Value × Nat × List Value)
def lens (L : Lst) : Nat := (L.map fun x => x.2.1).sum
def flat (L : Lst) : List Value := L.flatMap (·.2.2)
theorem lens_snoc {L : Lst} {k : Nat} {x : Value × Nat × List Value} (h : L[k]? = some x) : lens (L.take (k + 1)) = lens (L.take k) + x.2.1 := by
  unfold lens; rw [List.take_add_one, h]; simp
theorem flat_snoc {L : Lst} {k : Nat} {x : Value × Nat × List Value} (h : L[k]? = some x) : flat (L.take (k + 1)) = flat (L.take k) ++ x.2.2 := by
  unfold flat; rw [List.take_add_one, h]; simp

end Go.Proofs.YtbpldkhgiddmlaaGreatDoor

/-
  swap of items, and of kids; headed.
-/
set_option linter.unusedVariables false
namespace Go.Proofs.YtbpldkhgiddmlaaGreatDoor
open Go.RowKit

/-- Elements of a row, cell by cell. -/
theorem Rw.raw {α : Type} {E : El α} {w : World} {A : Option Addr} {n c : Nat} {l : List α} (h : Rw E w (.slice A n c) l) : ∃ C, Den (E.At w) l C ∧ RawV E.z w (.slice A n c) n C := by
  have hn := h.len
  obtain ⟨A', c', C, e, hd, hr, h1, h2, h3⟩ := h
  simp only [Value.slice.injEq] at e
  obtain ⟨rfl, rfl, rfl⟩ := e
  exact ⟨C, hd, A, c, rfl, Den.length (fun _ _ => E.len) hd, hr, h1, h2, h3, Den.one (fun _ _ => E.one) hd⟩
theorem RawV.take {z n c k : Nat} {w : World} {A : Option Addr} {C : List Value} (h : RawV z w (.slice A n c) n C) (hk : k ≤ n) : RawV z w (.slice A k c) k (C.take (k * z)) := by
  obtain ⟨A', c', e, h1, h2, h3, h4, h5, h6⟩ := h
  simp only [Value.slice.injEq, true_and] at e
  obtain ⟨rfl, rfl⟩ := e
  refine ⟨A, c, rfl, ?_, h2.take _, h3, by omega, h5, fun u hu => h6 u (List.mem_of_mem_take hu)⟩
  have := Nat.mul_le_mul_right z hk
  rw [List.length_take]
  omega
theorem RawV.cut {z n c k : Nat} {w : World} {A : Option Addr} {C : List Value} (h : RawV z w (.slice A n c) n C) (hk : k ≤ n) : RawV z w (.slice A k k) k (C.take (k * z)) := by
  obtain ⟨A', c', e, h1, h2, h3, h4, h5, h6⟩ := h
  simp only [Value.slice.injEq, true_and] at e
  obtain ⟨rfl, rfl⟩ := e
  refine ⟨A, k, rfl, ?_, h2.take _, fun e => by have := h3 e; omega, by omega, by omega, fun u hu => h6 u (List.mem_of_mem_take hu)⟩
  have := Nat.mul_le_mul_right z hk
  rw [List.length_take]
  omega
theorem RawV.drop {z n c k : Nat} {w : World} {A : Option Addr} {C : List Value} (h : RawV z w (.slice A n c) n C) (hk : k ≤ n) : RawV z w (.slice (if c = k then A else A.map (·.add (k * z))) (n - k) (c - k)) (n - k) (C.drop (k * z)) := by
  obtain ⟨A', c', e, h1, h2, h3, h4, h5, h6⟩ := h
  simp only [Value.slice.injEq, true_and] at e
  obtain ⟨rfl, rfl⟩ := e
  have hm := Nat.mul_le_mul_right z hk
  refine ⟨_, _, rfl, by rw [List.length_drop, h1, Nat.sub_mul], fun hn => ?_, fun e => ?_, by omega, by omega, fun u hu => h6 u (List.mem_of_mem_drop hu)⟩
  · simp at hn
    obtain ⟨b, off, rfl, hb, hc⟩ := h2 (by omega)
    have hne : c ≠ k := by
      rintro rfl
      have : n = c := by omega
      subst this
      omega
    rw [if_neg hne]
    refine ⟨b, off + k * z, by simp [Addr.add_lit], hb, fun j u hu => ?_⟩
    rw [Nat.add_assoc]
    exact hc _ u (by rw [← hu, List.getElem?_drop])
  · split at e
    · have := h3 e
      omega
    · rw [Option.map_eq_none_iff] at e
      have := h3 e
      omega
theorem RawV.rw_ {α : Type} {E : El α} {n : Nat} {w : World} {v : Value} {l : List α} {C : List Value} (hn : n = l.length) (hd : Den (E.At w) l C) (h : RawV E.z w v n C) : Rw E w v l := by
  obtain ⟨A, c, rfl, h1, h2, h3, h4, h5, h6⟩ := h
  subst hn
  exact ⟨A, c, C, rfl, hd, h2, h3, h4, h5⟩
end Go.Proofs.YtbpldkhgiddmlaaGreatDoor

/-
  What stays true whatever is done to some blocks, and to new ones; headed.
-/
set_option linter.unusedVariables false
namespace Go.Proofs.YtbpldkhgiddmlaaGreatDoor
open Go.RowKit

/-- It holds now, and whatever is done to blocks of which F speaks, and to new ones. -/
def Stab (F : Nat → Prop) (w : World) (P : World → Prop) : Prop := ∀ W, Only (fun k => F k ∨ w.heap.size ≤ k) w W → P W
section
variable {F F' : Nat → Prop} {w w' : World} {P Q : World → Prop}
theorem Stab.now (h : Stab F w P) : P w := h w (Only.refl _ _)
theorem Stab.later_of (hP : ∀ W, Only (w.heap.size ≤ ·) w W → P W) : Stab (fun _ => False) w P := fun W hW => hP W (hW.mono fun k hk => by simpa using hk)
theorem Stab.imp (h : Stab F w P) (hPQ : ∀ W, P W → Q W) : Stab F w Q := fun W hW => hPQ W (h W hW)
theorem Stab.and (h : Stab F w P) (h' : Stab F w Q) : Stab F w (fun W => P W ∧ Q W) := fun W hW => ⟨h W hW, h' W hW⟩
theorem Stab.mono (h : Stab F w P) (hF : ∀ k, F' k → F k ∨ w.heap.size ≤ k) : Stab F' w P := fun W hW => h W (hW.mono fun k hk => hk.elim (hF k) Or.inr)
theorem Stab.step (h : Stab F w P) (ho : Only (fun k => F k ∨ w.heap.size ≤ k) w w') (hF : ∀ k, F' k → F k ∨ w.heap.size ≤ k) : Stab F' w' P := fun W hW =>
  h W (ho.trans (hW.mono fun k hk => hk.elim (hF k) fun hk => .inr (Nat.le_trans ho.size hk)))
theorem Stab.later (h : Stab F w P) (ho : Only (w.heap.size ≤ ·) w w') : Stab F w' P := h.step (ho.mono fun _ hk => .inr hk) fun _ hk => .inl hk
end
/-- A row, its cells named. -/
def RwC {α : Type} (E : El α) (w : World) (v : Value) (l : List α) (C : List Value) : Prop := Den (E.At w) l C ∧ RawV E.z w v l.length C
def SRw {α : Type} (E : El α) (F : Nat → Prop) (w : World) (v : Value) (l : List α) : Prop := ∃ C, Stab F w (fun W => RwC E W v l C)
section
variable {α : Type} {E : El α} {F F' : Nat → Prop} {w w' : World} {v : Value} {l : List α} {A : Option Addr} {n c : Nat}
theorem RwC.rw_ {C : List Value} (h : RwC E w v l C) : Rw E w v l := RawV.rw_ rfl h.1 h.2
theorem SRw.rw_ (h : SRw E F w v l) : Stab F w (fun W => Rw E W v l) := by
  obtain ⟨C, h⟩ := h
  exact h.imp fun W hW => hW.rw_
theorem Rw.srw (h : Rw E w (.slice A n c) l) : SRw E (fun _ => False) w (.slice A n c) l := by
  obtain rfl := h.len
  obtain ⟨C, hd, hr⟩ := h.raw
  exact ⟨C, Stab.later_of fun W hW => ⟨hd.mono fun x cs hx => E.later hx hW, hr.later hW⟩⟩
theorem SRw.step (h : SRw E F w v l) (ho : Only (fun k => F k ∨ w.heap.size ≤ k) w w') (hF : ∀ k, F' k → F k ∨ w.heap.size ≤ k) : SRw E F' w' v l := by
  obtain ⟨C, h⟩ := h
  exact ⟨C, h.step ho hF⟩
theorem SRw.later (h : SRw E F w v l) (ho : Only (w.heap.size ≤ ·) w w') : SRw E F w' v l := by
  obtain ⟨C, h⟩ := h
  exact ⟨C, h.later ho⟩
theorem SRw.len (h : SRw E F w (.slice A n c) l) : n = l.length := h.rw_.now.len
theorem SRw.cut (h : SRw E F w (.slice A n c) l) {k : Nat} (hk : k ≤ n) : SRw E F w (.slice A k k) (l.take k) := by
  obtain rfl := h.len
  obtain ⟨C, h⟩ := h
  refine ⟨C.take (k * E.z), h.imp fun W hW => ⟨hW.1.take (fun _ _ => E.len) k, ?_⟩⟩
  have := hW.2.cut hk
  rwa [show (l.take k).length = k by simp; omega]
theorem SRw.drop (h : SRw E F w (.slice A n c) l) {k : Nat} (hk : k ≤ n) : SRw E F w (.slice (if c = k then A else A.map (·.add (k * E.z))) (n - k) (c - k)) (l.drop k) := by
  obtain rfl := h.len
  obtain ⟨C, h⟩ := h
  refine ⟨C.drop (k * E.z), h.imp fun W hW => ⟨hW.1.drop (fun _ _ => E.len) k, ?_⟩⟩
  have := hW.2.drop hk
  rwa [show (l.drop k).length = l.length - k by simp]
theorem SRw.nil_ (F : Nat → Prop) (w : World) : SRw E F w (.slice none 0 0) ([] : List α) := ⟨[], fun W _ => ⟨rfl, none, 0, rfl, by simp, Raw.nil_ _ _, fun _ => rfl, Nat.le_refl _, by omega, by simp⟩⟩
end
/-- The three parts of a node's value, for good. -/
def SNod (F : Nat → Prop) (w : World) (x : Nd) (f : Bool) (v u : Value) : Prop := f = x.leaf ∧ SRw itE F w v x.its ∧ SRw kdE F w u x.kds
section
variable {F F' : Nat → Prop} {w w' : World} {x : Nd} {f : Bool} {v u : Value}
theorem SNod.step (h : SNod F w x f v u) (ho : Only (fun k => F k ∨ w.heap.size ≤ k) w w') (hF : ∀ k, F' k → F k ∨ w.heap.size ≤ k) : SNod F' w' x f v u := ⟨h.1, h.2.1.step ho hF, h.2.2.step ho hF⟩
theorem SNod.later (h : SNod F w x f v u) (ho : Only (w.heap.size ≤ ·) w w') : SNod F w' x f v u := ⟨h.1, h.2.1.later ho, h.2.2.later ho⟩
end

theorem Src.stab {w : World} {v : Value} {xs : Bytes} (h : Src w v xs) : Stab (fun _ => False) w (fun W => Src W v xs) := Stab.later_of fun W hW => h.later hW
/-- Bytes of the call's own stay. -/
theorem New.stab {w w' : World} {v : Value} {xs : Bytes} {F : Nat → Prop} (h : New w' w.heap.size v xs) (hF : ∀ k, F k → k < w.heap.size) : Stab F w' (fun W => Src W v xs) := fun W hW =>
  (h.keep hW fun k h1 h2 hk => by
    rcases hk with hk | hk
    · have := hF k hk
      omega
    · omega).src
theorem New.nil_ (w : World) (b : Nat) : New w b (.slice none 0 0) [] := ⟨none, 0, rfl, Txt.nil_ _ _, fun _ => rfl, Nat.le_refl _, by omega, fun ad e => by cases e⟩

/-- A row of the call's own stays. -/
theorem raw_stab {w w' : World} {F : Nat → Prop} {z n : Nat} {t : TypeId} {v : Value} {C : List Value} (h : w'.ownsRow w.heap.size t z v n C) (h1 : ∀ u ∈ C, u.oneCell' = true) (hF : ∀ k, F k → k < w.heap.size) : Stab F w' (fun W => RawV z W v n C) := fun W hW => by
  obtain ⟨A, c, rfl, hr, hA, hc, hm, hb⟩ := raw_of_own h
  refine ⟨A, c, rfl, h.1, hr.on hW (fun b off _ e hk => ?_), hA, hc, hm, h1⟩
  obtain ⟨g, e2, _, h3, h4⟩ := hb _ e
  cases e2
  rcases hk with hk | hk
  · have := hF _ hk
    omega
  · omega

theorem own_form {w : World} {B z n : Nat} {t : TypeId} {v : Value} {C : List Value} (h : w.ownsRow B t z v n C) (hn : 0 < n) : ∃ g p, v = .slice (some ⟨g, 0, none⟩) n p ∧ B ≤ g := by
  rcases h.2 with ⟨_, h0⟩ | ⟨g, cap, cur, e, hb, _⟩
  · omega
  · exact ⟨g, cap, e, hb⟩
end Go.Proofs.YtbpldkhgiddmlaaGreatDoor

/-
  What lies in no variable of a node's type: rows and bytes stay while such a variable is written.
-/
set_option linter.unusedVariables false
namespace Go.Proofs.YtbpldkhgiddmlaaGreatDoor
open Go.RowKit

theorem spotF {w : World} {a : Addr} {v : Value} (h : w.cell? a = some v) : a = ⟨a.block, a.off, none⟩ := by
  unfold World.cell? at h
  split at h
  · split at h
    · cases h
    · rename_i hs
      cases a
      simp at hs ⊢
      exact hs
  · cases h
section
variable {w : World} {g : Nat} {t : TypeId} {f' : Bool} {P' Q' : Option Addr} {p1 p2 q1 q2 : Nat}
end
end Go.Proofs.YtbpldkhgiddmlaaGreatDoor

