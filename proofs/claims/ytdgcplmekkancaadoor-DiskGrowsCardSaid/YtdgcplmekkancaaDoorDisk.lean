/-
  A disk in memory; the small methods.
-/
import Derived.Test.YtdgcplmekkancaaDoorAbst
import Derived.Test.YtdgcplmekkancaaDoorClon
set_option linter.unusedVariables false
namespace Go.Proofs.YtdgcplmekkancaaDoor
open Go.RowKit

def fieldsOf (d : Dsk) (Ad As Ar : Option Addr) (cd cs cr : Nat) : List Value :=
  [.int .i64 d.limit, .slice Ad d.n cd, .slice As d.n cs, .slice Ar d.row.length cr, .int .i64 d.ops, .bool d.armed, .int .i64 d.left, .bool d.down]

structure DiskIn (w : World) (p : Nat) (d : Dsk) (seen : Bytes) (Ad As Ar : Option Addr) (cd cs cr : Nat) : Prop where
  blk : Blk w p 50 (fieldsOf d Ad As Ar cd cs cr)
  dur : w.ownsRow 0 47 64 (.slice Ad d.n cd) d.n (cb d.dur)
  seen : w.ownsRow 0 47 64 (.slice As d.n cs) d.n (cb seen)
  row : w.ownsRow 0 53 65 (.slice Ar d.row.length cr) d.row.length (rowCells d.row)
  apart : ∀ a b, Ad = some a → As = some b → a.block ≠ b.block

def Foot (p : Nat) (Ad As Ar : Option Addr) (k : Nat) : Prop := k = p ∨ (∃ a, Ad = some a ∧ a.block = k) ∨ (∃ a, As = some a ∧ a.block = k) ∨ (∃ a, Ar = some a ∧ a.block = k)

def Holds (w : World) (F : Nat → Prop) (p : Nat) (d : Dsk) : Prop :=
  d.WF ∧ ∃ Ad As Ar cd cs cr, DiskIn w p d d.see Ad As Ar cd cs cr ∧ ∀ k, Foot p Ad As Ar k → F k

theorem owns_far {w w' : World} {b : Nat} {e : TypeId} {s : Nat} {A : Option Addr} {n c : Nat} {xs : List Value} (h : w.ownsRow b e s (.slice A n c) n xs)
    (hk : ∀ a, A = some a → w'.heap[a.block]? = w.heap[a.block]?) : w'.ownsRow b e s (.slice A n c) n xs := by
  refine ⟨h.1, ?_⟩
  rcases h.2 with h0 | ⟨g, cap, cur, hv, hb, hg, r⟩
  · exact .inl h0
  · refine .inr ⟨g, cap, cur, hv, hb, ?_, r⟩
    injection hv with hA
    subst hA
    exact (hk _ rfl).trans hg
theorem owns_form {w : World} {b : Nat} {e : TypeId} {s : Nat} {A : Option Addr} {n c : Nat} {xs : List Value} (h : w.ownsRow b e s (.slice A n c) n xs) {a : Addr} (hA : A = some a) :
    ∃ g cur, a = ⟨g, 0, none⟩ ∧ Blk w g e (xs ++ cur) ∧ (xs ++ cur).length = c * s ∧ n ≤ c ∧ c ≤ maxLen := by
  subst hA
  rcases h.2 with ⟨h0, _⟩ | ⟨g, cap, cur, hv, hb, hg, hnc, hcm, hcs, ht⟩
  · cases h0
  · injection hv with h1 h2 h3
    injection h1 with h1
    subst h1 h3
    have e1 : xs ++ cur.toList.drop (n * s) = cur.toList := by rw [← ht]; exact List.take_append_drop _ _
    refine ⟨g, cur.toList.drop (n * s), rfl, ?_, by rw [e1]; simpa using hcs, hnc, hcm⟩
    rw [e1]
    simpa [Blk] using hg
theorem owns_pos {w : World} {b : Nat} {e : TypeId} {s : Nat} {A : Option Addr} {n c : Nat} {xs : List Value} (h : w.ownsRow b e s (.slice A n c) n xs) (hn : 0 < n) : ∃ g, A = some ⟨g, 0, none⟩ := by
  rcases h.2 with ⟨_, h0⟩ | ⟨g, cap, cur, hv, _⟩
  · omega
  · injection hv with h1
    exact ⟨g, h1⟩
theorem owns_cap {w : World} {b : Nat} {e : TypeId} {s : Nat} {A : Option Addr} {n c : Nat} {xs : List Value} (h : w.ownsRow b e s (.slice A n c) n xs) : n ≤ c ∧ c ≤ maxLen := by
  rcases h.2 with ⟨h0, h1⟩ | ⟨g, cap, cur, hv, hb, hg, hnc, hcm, hcs, ht⟩
  · injection h0 with _ _ h2; subst h2; subst h1; exact ⟨Nat.le_refl _, by simp [maxLen]⟩
  · injection hv with _ _ h2; subst h2; exact ⟨hnc, hcm⟩
theorem owns_mk {w : World} {g : Nat} {e : TypeId} {s n c : Nat} {xs cur : List Value} (hb : Blk w g e (xs ++ cur)) (hl : xs.length = n * s) (hc : (xs ++ cur).length = c * s) (hnc : n ≤ c) (hm : c ≤ maxLen) :
    w.ownsRow 0 e s (.slice (some ⟨g, 0, none⟩) n c) n xs :=
  ⟨hl, .inr ⟨g, c, (xs ++ cur).toArray, rfl, Nat.zero_le _, hb, hnc, hm, by simpa using hc, by rw [← hl]; simp⟩⟩

section
variable {w w' : World} {F G : Nat → Prop} {p : Nat} {d : Dsk} {seen : Bytes} {Ad As Ar : Option Addr} {cd cs cr : Nat}
theorem DiskIn.ne_d (h : DiskIn w p d seen Ad As Ar cd cs cr) : ∀ a, Ad = some a → a.block ≠ p := fun a ha => by
  obtain ⟨g, cur, rfl, hb, _⟩ := owns_form h.dur ha
  exact hb.ne h.blk (by decide)
theorem DiskIn.ne_s (h : DiskIn w p d seen Ad As Ar cd cs cr) : ∀ a, As = some a → a.block ≠ p := fun a ha => by
  obtain ⟨g, cur, rfl, hb, _⟩ := owns_form h.seen ha
  exact hb.ne h.blk (by decide)
theorem DiskIn.ne_r (h : DiskIn w p d seen Ad As Ar cd cs cr) : ∀ a, Ar = some a → a.block ≠ p := fun a ha => by
  obtain ⟨g, cur, rfl, hb, _⟩ := owns_form h.row ha
  exact hb.ne h.blk (by decide)
theorem DiskIn.ne_rd (h : DiskIn w p d seen Ad As Ar cd cs cr) : ∀ a b, Ar = some a → Ad = some b → a.block ≠ b.block := fun a b ha hb' => by
  obtain ⟨g, cur, rfl, hb, _⟩ := owns_form h.row ha
  obtain ⟨g', cur', rfl, hb'', _⟩ := owns_form h.dur hb'
  exact hb.ne hb'' (by decide)
theorem DiskIn.ne_rs (h : DiskIn w p d seen Ad As Ar cd cs cr) : ∀ a b, Ar = some a → As = some b → a.block ≠ b.block := fun a b ha hb' => by
  obtain ⟨g, cur, rfl, hb, _⟩ := owns_form h.row ha
  obtain ⟨g', cur', rfl, hb'', _⟩ := owns_form h.seen hb'
  exact hb.ne hb'' (by decide)
theorem DiskIn.lt (h : DiskIn w p d seen Ad As Ar cd cs cr) : ∀ k, Foot p Ad As Ar k → k < w.heap.size := by
  rintro k (rfl | ⟨a, ha, rfl⟩ | ⟨a, ha, rfl⟩ | ⟨a, ha, rfl⟩)
  · exact h.blk.lt
  · obtain ⟨g, cur, rfl, hb, _⟩ := owns_form h.dur ha; exact hb.lt
  · obtain ⟨g, cur, rfl, hb, _⟩ := owns_form h.seen ha; exact hb.lt
  · obtain ⟨g, cur, rfl, hb, _⟩ := owns_form h.row ha; exact hb.lt
theorem DiskIn.keep (h : DiskIn w p d seen Ad As Ar cd cs cr) (hk : ∀ k, Foot p Ad As Ar k → w'.heap[k]? = w.heap[k]?) : DiskIn w' p d seen Ad As Ar cd cs cr :=
  ⟨(hk p (.inl rfl)).trans h.blk, owns_far h.dur fun a ha => hk _ (.inr (.inl ⟨a, ha, rfl⟩)), owns_far h.seen fun a ha => hk _ (.inr (.inr (.inl ⟨a, ha, rfl⟩))),
    owns_far h.row fun a ha => hk _ (.inr (.inr (.inr ⟨a, ha, rfl⟩))), h.apart⟩
theorem DiskIn.only (h : DiskIn w p d seen Ad As Ar cd cs cr) (ho : Only G w w') (hG : ∀ k, Foot p Ad As Ar k → ¬ G k) : DiskIn w' p d seen Ad As Ar cd cs cr :=
  h.keep fun k hk => ho.block k (hG k hk)
theorem DiskIn.drew (h : DiskIn w p d seen Ad As Ar cd cs cr) : DiskIn w.drew p d seen Ad As Ar cd cs cr := h.keep fun _ _ => rfl
theorem DiskIn.alloc (h : DiskIn w p d seen Ad As Ar cd cs cr) (o : Obj) : DiskIn (w.alloc o) p d seen Ad As Ar cd cs cr := h.keep fun k hk => Below.heap_alloc w o k (h.lt k hk)
/-- A field that is one word of its own. -/
theorem DiskIn.field (h : DiskIn w p d seen Ad As Ar cd cs cr) (i : Nat) (v : Value) (d' : Dsk) (hn : d'.n = d.n) (hd : d'.dur = d.dur) (hr : d'.row = d.row)
    (hf : fieldsOf d' Ad As Ar cd cs cr = (fieldsOf d Ad As Ar cd cs cr).set i v) : DiskIn (w.setCell ⟨p, i, none⟩ v) p d' seen Ad As Ar cd cs cr := by
  have far : ∀ a : Addr, a.block ≠ p → (w.setCell ⟨p, i, none⟩ v).heap[a.block]? = w.heap[a.block]? := fun a ha => Below.heap_setCell w ⟨p, i, none⟩ v _ ha
  refine ⟨by rw [hf]; exact h.blk.set_ i v, ?_, ?_, ?_, h.apart⟩
  · rw [hn, hd]; exact owns_far h.dur fun a ha => far a (h.ne_d a ha)
  · rw [hn]; exact owns_far h.seen fun a ha => far a (h.ne_s a ha)
  · rw [hr]; exact owns_far h.row fun a ha => far a (h.ne_r a ha)
theorem Holds.keep (h : Holds w F p d) (ho : Only G w w') (hG : ∀ k, F k → k < w.heap.size → ¬ G k) : Holds w' F p d := by
  obtain ⟨hw, Ad, As, Ar, cd, cs, cr, hd, hf⟩ := h
  exact ⟨hw, Ad, As, Ar, cd, cs, cr, hd.only ho (fun k hk => hG k (hf k hk) (hd.lt k hk)), hf⟩
theorem Holds.mono (h : Holds w F p d) (hG : ∀ k, k < w.heap.size → F k → G k) : Holds w G p d := by
  obtain ⟨hw, Ad, As, Ar, cd, cs, cr, hd, hf⟩ := h
  exact ⟨hw, Ad, As, Ar, cd, cs, cr, hd, fun k hk => hG k (hd.lt k hk) (hf k hk)⟩
theorem Holds.drew (h : Holds w F p d) : Holds w.drew F p d := h.keep (G := fun _ => False) ((Only.refl _ _).drew) (fun _ _ _ h => h)
theorem Holds.drewN (h : Holds w F p d) (n : Nat) : Holds (w.drewN n) F p d := h.keep (G := fun _ => False) ((Only.refl _ _).drewN n) (fun _ _ _ h => h)
theorem Holds.alloc (h : Holds w F p d) (o : Obj) : Holds (w.alloc o) F p d := h.keep (G := (w.heap.size ≤ ·)) ((Only.refl _ _).alloc (fun _ h => h) o) (fun _ _ h h' => by omega)
end

theorem Size_c (w : World) (F : Nat → Prop) (p : Nat) (d : Dsk) (h : Holds w F p d) :
    Calls Tryd.prog 7 #[.pointer (some ⟨p, 0, none⟩)] w fun e w' => e = .returned (.int .i64 d.n) ∧ w = w' := by
  obtain ⟨hw, Ad, As, Ar, cd, cs, cr, hd, hf⟩ := h
  have h2 : w.cell? ⟨p, 2, none⟩ = some (.slice As d.n cs) := hd.blk.cell 2
  clear hw hd hf
  go_enter Tryd.func7, Tryd.ntmps7
  go_wp2
  go_ret
  exact ⟨rfl, rfl⟩
theorem Pending_c (w : World) (F : Nat → Prop) (p : Nat) (d : Dsk) (h : Holds w F p d) :
    Calls Tryd.prog 16 #[.pointer (some ⟨p, 0, none⟩)] w fun e w' => e = .returned (.int .i64 d.row.length) ∧ w = w' := by
  obtain ⟨hw, Ad, As, Ar, cd, cs, cr, hd, hf⟩ := h
  have h2 : w.cell? ⟨p, 3, none⟩ = some (.slice Ar d.row.length cr) := hd.blk.cell 3
  clear hw hd hf
  go_enter Tryd.func16, Tryd.ntmps16
  go_wp2
  go_ret
  exact ⟨rfl, rfl⟩
theorem Down_c (w : World) (F : Nat → Prop) (p : Nat) (d : Dsk) (h : Holds w F p d) :
    Calls Tryd.prog 20 #[.pointer (some ⟨p, 0, none⟩)] w fun e w' => e = .returned (.bool d.down) ∧ w = w' := by
  obtain ⟨hw, Ad, As, Ar, cd, cs, cr, hd, hf⟩ := h
  have h2 : w.cell? ⟨p, 7, none⟩ = some (.bool d.down) := hd.blk.cell 7
  clear hw hd hf
  go_enter Tryd.func20, Tryd.ntmps20
  go_wp2
  go_ret
  exact ⟨rfl, rfl⟩
theorem Ops_c (w : World) (F : Nat → Prop) (p : Nat) (d : Dsk) (h : Holds w F p d) :
    Calls Tryd.prog 21 #[.pointer (some ⟨p, 0, none⟩)] w fun e w' => e = .returned (.int .i64 d.ops) ∧ w = w' := by
  obtain ⟨hw, Ad, As, Ar, cd, cs, cr, hd, hf⟩ := h
  have h2 : w.cell? ⟨p, 4, none⟩ = some (.int .i64 d.ops) := hd.blk.cell 4
  clear hw hd hf
  go_enter Tryd.func21, Tryd.ntmps21
  go_wp2
  go_ret
  exact ⟨rfl, rfl⟩
theorem Limit_c (w : World) (F : Nat → Prop) (p : Nat) (d : Dsk) (h : Holds w F p d) :
    Calls Tryd.prog 9 #[.pointer (some ⟨p, 0, none⟩)] w fun e w' => e = .returned (.int .i64 d.limit) ∧ w = w' := by
  obtain ⟨hw, Ad, As, Ar, cd, cs, cr, hd, hf⟩ := h
  have h2 : w.cell? ⟨p, 0, none⟩ = some (.int .i64 d.limit) := hd.blk.cell 0
  clear hw hd hf
  go_enter Tryd.func9, Tryd.ntmps9
  go_wp2
  go_ret
  exact ⟨rfl, rfl⟩

theorem op_c (w : World) (F : Nat → Prop) (p : Nat) (d : Dsk) (h : Holds w F p d) (ho : d.ops < 4611686018427387904) :
    Calls Tryd.prog 34 #[.pointer (some ⟨p, 0, none⟩)] w fun e w' => e = .returned (.int .i64 d.op.2) ∧ Holds w' F p d.op.1 ∧ Only F w w' := by
  obtain ⟨hw, Ad, As, Ar, cd, cs, cr, hd, hf⟩ := h
  have h4 : w.cell? ⟨p, 4, none⟩ = some (.int .i64 d.ops) := hd.blk.cell 4
  have h5 : w.cell? ⟨p, 5, none⟩ = some (.bool d.armed) := hd.blk.cell 5
  have h6 : w.cell? ⟨p, 6, none⟩ = some (.int .i64 d.left) := hd.blk.cell 6
  have h7 : w.cell? ⟨p, 7, none⟩ = some (.bool d.down) := hd.blk.cell 7
  have hfz : ∀ i, w.frozen? ⟨p, i, none⟩ = false := hd.blk.frozen
  have Hd := Lib.hid hd
  have Hf := Lib.hid hf
  have hl := hw.left
  have Hw := Lib.hid hw
  clear hd hf hw
  have hp : ∀ {k}, k = p → F k := fun h => Hf.out _ (.inl h)
  obtain ⟨limit, n, dur, row, ops, armed, left, down⟩ := d
  replace ho : (ops : Int) < 4611686018427387904 := by show (ops : Int) < _; have : ops < 4611686018427387904 := ho; omega
  replace hl : (left : Int) < 9223372036854775808 := by have : left < 9223372036854775808 := hl; omega
  cases armed
  · go_enter Tryd.func34, Tryd.ntmps34
    go_wp2
    go_ret
    refine ⟨rfl, ⟨Hw.out.op, Ad, As, Ar, cd, cs, cr, ?_, Hf.out⟩, (Only.refl _ _).setCell (hp rfl) _⟩
    exact Hd.out.field 4 _ _ rfl rfl rfl rfl
  · by_cases hlt : 0 < left
    · have hlt' : (0 : Int) < (left : Int) := by omega
      have e : Dsk.op { limit, n, dur, row, ops, armed := true, left, down } = ({ limit, n, dur, row, ops := ops + 1, armed := true, left := left - 1, down }, 0) := by simp [Dsk.op, hlt]
      have He := Lib.hid e
      clear e
      go_enter Tryd.func34, Tryd.ntmps34
      go_wp2
      go_ret
      rw [He.out]
      refine ⟨rfl, ⟨?_, Ad, As, Ar, cd, cs, cr, ?_, Hf.out⟩, ((Only.refl _ _).setCell (hp rfl) _).setCell (hp rfl) _⟩
      · have := Hw.out.op; rw [He.out] at this; exact this
      · have h1 := Hd.out.field 4 (.int .i64 (ops + 1)) { limit, n, dur, row, ops := ops + 1, armed := true, left, down } rfl rfl rfl rfl
        refine h1.field 6 _ { limit, n, dur, row, ops := ops + 1, armed := true, left := left - 1, down } rfl rfl rfl ?_
        simp [fieldsOf]
        omega
    · obtain rfl : left = 0 := by omega
      go_enter Tryd.func34, Tryd.ntmps34
      go_wp2
      go_ret
      refine ⟨rfl, ⟨Hw.out.op, Ad, As, Ar, cd, cs, cr, ?_, Hf.out⟩, ((Only.refl _ _).setCell (hp rfl) _).setCell (hp rfl) _⟩
      have h1 := Hd.out.field 4 (.int .i64 (ops + 1)) { limit, n, dur, row, ops := ops + 1, armed := true, left := 0, down } rfl rfl rfl rfl
      exact h1.field 7 (.bool true) { limit, n, dur, row, ops := ops + 1, armed := true, left := 0, down := true } rfl rfl rfl rfl

end Go.Proofs.YtdgcplmekkancaaDoor
