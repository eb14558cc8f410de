/-
  FieldBack: what was written, as plain bytes; a writer alone in memory.
-/
import Derived.Test.YtmkpcdcdhheokaaTwo
set_option linter.unusedVariables false
namespace Go.Proofs.Ytmkpcdcdhheokaa
open Go.RowKit

def piece (o : Cl) : Bytes := if o.kind = 0 then (if fits o.n o.width = true then le o.n.toNat o.width.toNat else []) else if o.kind = 1 then o.xs else []
def cat (l : List Cl) : Bytes := l.flatMap piece
theorem piece_len (o : Cl) : (piece o).length ≤ 8 + o.xs.length := by
  unfold piece
  split
  · split
    · rename_i h
      obtain ⟨a, k, _, e, _, h8, _⟩ := fits_parts h
      rw [le_length, e, Int.toNat_natCast]
      omega
    · simp
  · split
    · omega
    · simp
theorem cat_snoc (l : List Cl) (k : Nat) (o : Cl) (h : l[k]? = some o) : cat (l.take (k + 1)) = cat (l.take k) ++ piece o := by
  rw [List.take_add_one, h]
  simp [cat]
theorem total_append (a b : List Cl) : total (a ++ b) = total a + total b := by simp [total]
theorem cat_append (a b : List Cl) : cat (a ++ b) = cat a ++ cat b := by simp [cat]
theorem total_le_all (l : List Cl) (k : Nat) : total (l.take k) ≤ total l := by
  have := total_append (l.take k) (l.drop k)
  rw [List.take_append_drop] at this
  omega
theorem cat_len (l : List Cl) : ∀ k, (cat (l.take k)).length ≤ total (l.take k) + 8 * k
  | 0 => by simp [cat]
  | k + 1 => by
    have ih := cat_len l k
    cases hk : l[k]? with
    | none => rw [List.take_add_one, hk]; simp; omega
    | some o =>
      rw [cat_snoc l k o hk, total_snoc l k o hk, List.length_append]
      have := piece_len o
      omega
theorem cat_split (l : List Cl) (k : Nat) (o : Cl) (h : l[k]? = some o) : ∃ R, cat l = cat (l.take k) ++ (piece o ++ R) := by
  refine ⟨cat (l.drop (k + 1)), ?_⟩
  rw [← List.append_assoc, ← cat_snoc l k o h, ← cat_append, List.take_append_drop]

/-- The writer behind these bytes. -/
def wst (X : Bytes) : Cur := ⟨X ++ List.replicate (16384 - X.length) 0, X.length, false⟩
theorem wst_nil : Cur.make 16384 = wst [] := rfl
theorem wst_has (X xs : Bytes) (h : X.length + xs.length ≤ 16384) : (wst X).has xs.length = true := by
  refine Cur.has_of rfl ?_
  show X.length + xs.length ≤ (X ++ List.replicate (16384 - X.length) 0).length
  simp
  omega
theorem wst_write (X xs : Bytes) (h : X.length + xs.length ≤ 16384) : (wst X).write xs = wst (X ++ xs) := by
  rw [Cur.write, if_pos (wst_has X xs h)]
  unfold wst over
  simp only [Cur.mk.injEq, and_true, List.length_append]
  rw [List.take_left, List.append_assoc]
  congr 2
  rw [← List.drop_drop, List.drop_left, List.drop_replicate]
  congr 1
  omega
theorem wst_put (X : Bytes) (n k : Int) (h : fits n k = true) (hl : X.length + 8 ≤ 16384) : (wst X).put n k = wst (X ++ le n.toNat k.toNat) := by
  obtain ⟨a, m, rfl, rfl, _, h8, _⟩ := fits_parts h
  rw [Cur.put, if_pos h, wst_write]
  rw [le_length, Int.toNat_natCast]
  omega

/-- The reader behind at bytes. -/
def rst (b : Bytes) (a : Nat) : Cur := ⟨b, a, false⟩
theorem rst_has {b xs R : Bytes} {a : Nat} (ha : a ≤ b.length) (h : b.drop a = xs ++ R) : (rst b a).has xs.length = true := by
  refine Cur.has_of rfl ?_
  show a + xs.length ≤ b.length
  have := congrArg List.length h
  simp at this
  omega
theorem rst_got {b xs R : Bytes} {a : Nat} (ha : a ≤ b.length) (h : b.drop a = xs ++ R) : (rst b a).got xs.length = xs := by
  rw [Cur.got, if_pos (rst_has ha h), Int.toNat_natCast]
  show (b.drop a).take xs.length = xs
  rw [h, List.take_left]
theorem rst_take {b xs R : Bytes} {a : Nat} (ha : a ≤ b.length) (h : b.drop a = xs ++ R) : (rst b a).take xs.length = rst b (a + xs.length) := by
  rw [Cur.take, if_pos (rst_has ha h), Int.toNat_natCast]
  rfl
theorem rst_get {b R : Bytes} {a : Nat} {n k : Int} (ha : a ≤ b.length) (hf : fits n k = true) (hn : n ≤ 9223372036854775807) (h : b.drop a = le n.toNat k.toNat ++ R) :
    (((rst b a).val k : Nat) : Int) = n ∧ (rst b a).get k = rst b (a + (le n.toNat k.toNat).length) := by
  obtain ⟨x, m, rfl, rfl, h1, h8, hx⟩ := fits_parts hf
  rw [Int.toNat_natCast, Int.toNat_natCast] at h ⊢
  have hh := rst_has ha h
  have hg := rst_got ha h
  have ht := rst_take ha h
  rw [le_length] at hh hg ht ⊢
  have hw : wide (m : Int) = true := by
    simp only [wide, Bool.and_eq_true, decide_eq_true_eq]
    omega
  have hm : (rst b a).may m = true := by
    rw [Cur.may, hw, hh, hg, num_le m x hx]
    simp
    omega
  rw [Cur.val, Cur.get, if_pos hm, if_pos hm, hg, ht, num_le m x hx]
  exact ⟨rfl, rfl⟩

theorem back_split (l : List Cl) (j : Nat) (o : Cl) (h : l[j]? = some o) : (cat (l.take j)).length ≤ (wst (cat l)).b.length ∧ ∃ R, (wst (cat l)).b.drop (cat (l.take j)).length = piece o ++ R := by
  obtain ⟨R, hR⟩ := cat_split l j o h
  have e : (wst (cat l)).b = cat (l.take j) ++ (piece o ++ (R ++ List.replicate (16384 - (cat l).length) 0)) := by
    show cat l ++ _ = _
    conv => lhs; arg 1; rw [hR]
    simp
  rw [e]
  exact ⟨by simp, _, List.drop_left⟩

theorem Rnd.cellsK {w0 w1 : World} {b p g q s : Nat} {cw cr : Cur} {o : Cl} (h : Rnd w0 w1 b p g q s cw cr o) {kd : Int} (hk : o.kind = kd) : w1.cell? ⟨b, 0, none⟩ = some (.int .i64 kd) ∧ w1.cell? ⟨b, 1, none⟩ = some (.int .i64 o.n) ∧ w1.cell? ⟨b, 2, none⟩ = some (.int .i64 o.width) ∧ w1.cell? ⟨b, 3, none⟩ = some (.slice o.B o.xs.length o.cB) := by
  rw [← hk]
  exact h.cells
/-- A writer alone. -/
structure One (w0 W : World) (p g : Nat) (c : Cur) : Prop where
  lo : w0.heap.size ≤ p ∧ w0.heap.size ≤ g ∧ g < W.heap.size
  wr : Holds W p g 41 c
  only : Only (w0.heap.size ≤ ·) w0 W
structure Ond (w0 W : World) (k p g : Nat) (c : Cur) (kv : Value) (o : Cl) : Prop where
  one : One w0 W p g c
  op : Blk W k 32 [kv, .int .i64 o.n, .int .i64 o.width, .slice o.B o.xs.length o.cB]
  hi : p < k ∧ g < k
section
variable {w0 w1 w2 : World} {k p g : Nat} {c d : Cur} {kv : Value} {o : Cl}
theorem One.wop (h : One w0 w1 p g c) (ho : Only (Foot p g) w1 w2) (hh : Holds w2 p g 41 d) : One w0 w2 p g d :=
  ⟨⟨h.lo.1, h.lo.2.1, Nat.lt_of_lt_of_le h.lo.2.2 ho.size⟩, hh, h.only.trans (foot_ge h.lo.1 h.lo.2.1 ho)⟩
theorem One.later (h : One w0 w1 p g c) (ho : Only (w1.heap.size ≤ ·) w1 w2) : One w0 w2 p g c :=
  ⟨⟨h.lo.1, h.lo.2.1, Nat.lt_of_lt_of_le h.lo.2.2 ho.size⟩, h.wr.later ho, on_new h.only ho⟩
theorem Ond.new (h : One w0 w1 p g c) (kv : Value) (o : Cl) : Ond w0 (w1.alloc (.cells #[kv, .int .i64 o.n, .int .i64 o.width, .slice o.B o.xs.length o.cB] 32)) w1.heap.size p g c kv o :=
  ⟨h.later ((Only.refl _ w1).alloc (fun _ h => h) _), Blk.new w1 32 [kv, .int .i64 o.n, .int .i64 o.width, .slice o.B o.xs.length o.cB], h.wr.lt, h.lo.2.2⟩
theorem Ond.wop (h : Ond w0 w1 k p g c kv o) (ho : Only (Foot p g) w1 w2) (hh : Holds w2 p g 41 d) : Ond w0 w2 k p g d kv o := by
  obtain ⟨h1, h2, h3⟩ := h
  exact ⟨h1.wop ho hh, h2.only ho (by rintro (e | e) <;> omega), h3⟩
theorem Ond.cells (h : Ond w0 w1 k p g c kv o) : w1.cell? ⟨k, 0, none⟩ = some kv ∧ w1.cell? ⟨k, 1, none⟩ = some (.int .i64 o.n) ∧ w1.cell? ⟨k, 2, none⟩ = some (.int .i64 o.width) ∧ w1.cell? ⟨k, 3, none⟩ = some (.slice o.B o.xs.length o.cB) :=
  ⟨h.op.cell 0, h.op.cell 1, h.op.cell 2, h.op.cell 3⟩
/-- A reader comes to it. -/
theorem One.two {q s : Nat} {cr : Cur} (h : One w0 w1 p g c) (hq : w1.heap.size ≤ q) (hs : w1.heap.size ≤ s) (ho : Only (w1.heap.size ≤ ·) w1 w2) (hr : Holds w2 q s 55 cr) : Two w0 w2 p g q s c cr := by
  have := h.wr.lt
  have := h.lo
  exact ⟨⟨h.lo.1, h.lo.2.1⟩, by omega, h.wr.later ho, hr, on_new h.only ho⟩
end
end Go.Proofs.Ytmkpcdcdhheokaa
