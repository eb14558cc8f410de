/-
  Pgs Pst Pfi Pkd Pit Phd Phf Rnm Pbd Rhd Heq Ser: as one text.
-/
import Derived.Test.YtopaponemjaenaaGreatDoorGa
import Derived.Test.YtopaponemjaenaaGreatDoorGc
import Derived.RegionTactic
import Derived.BigRegion
import Derived.Deep.CutRange
import Derived.Test.YtopaponemjaenaaGreatDoorGb
import Derived.Test.YtopaponemjaenaaGreatDoorGe
/-
  Kinds of pages, what a generation's pages bear: the small functions of page, and known of the document.
-/
set_option linter.unusedVariables false
namespace Go.Proofs.YtopaponemjaenaaGreatDoor
open Go.RowKit

def kindOk (k : Int) : Bool := decide (k = 76 ∨ k = 66 ∨ k = 79 ∨ k = 70)
/-- How many bytes stand between Count and Next. -/
def gap (g : Int) : Int := if g = 1 then 0 else 4
section
variable (w : World) (k g : Int)
end
end Go.Proofs.YtopaponemjaenaaGreatDoor

/-
  start: a writer that has written the head.
-/
set_option linter.unusedVariables false
namespace Go.Proofs.YtopaponemjaenaaGreatDoor
open Go.RowKit

def I64 (z : Int) : Prop := -9223372036854775808 ≤ z ∧ z ≤ 9223372036854775807
theorem I64.lo {z : Int} (h : I64 z) : -9223372036854775808 ≤ z := h.1
theorem I64.hi {z : Int} (h : I64 z) : z ≤ 9223372036854775807 := h.2
/-- The cursor behind the head. -/
def stC (k g n x : Int) : Cur := (((((Cur.make 256).put k 1).put g 1).put n 2).take (gap g)).put x (tr g 4 8 8)
end Go.Proofs.YtopaponemjaenaaGreatDoor

/-
  finish, Wrap: the page that was written, sealed if its generation asks for it.
-/
set_option linter.unusedVariables false
namespace Go.Proofs.YtopaponemjaenaaGreatDoor
open Go.RowKit

/-- Bytes came back, of the call's own; only new blocks. -/
def GaveB (w : World) (xs : Bytes) (e : Ending) (w' : World) : Prop := ∃ v, e = .returned v ∧ Src w' v xs ∧ Only (w.heap.size ≤ ·) w w'
/-- Bytes and a number came back. -/
def GaveBE (w : World) (xs : Bytes) (z : Int) (e : Ending) (w' : World) : Prop := ∃ v, e = .returned (.tuple #[v, .int .i64 z]) ∧ Src w' v xs ∧ Only (w.heap.size ≤ ·) w w'
theorem Byt.gave {w w' : World} {v : Value} {n : Nat} {xs : Bytes} (h : Byt w w' v n xs) : Src w' v xs ∧ Only (w.heap.size ≤ ·) w w' := by
  obtain ⟨hn, ho, hw⟩ := h
  subst hn
  exact ⟨Src.own ho, hw⟩
theorem Seal_s (w : World) (v : Value) (xs : Bytes) (h : Src w v xs) (hn : xs.length ≤ 65536) : Calls Tryz.prog 89 #[v, .int .i64 4] w (GaveB w (sealB xs 4)) := by
  obtain ⟨A, c, rfl, ht, hA, hc, hm⟩ := h
  refine (Seal_c w A xs.length c xs ht (fun e => ⟨by have := hA e; omega, hA e⟩) (by omega) hc hm 4 (by decide) (by decide)).mono ?_
  rintro e w' ⟨v', rfl, hb⟩
  exact ⟨v', rfl, hb.gave⟩
theorem rSeal_s (w : World) (v : Value) (xs : Bytes) (h : Src w v xs) (hn : xs.length ≤ 65536) : Calls Tryz.prog 69 #[v, .int .i64 4] w (GaveB w (sealB xs 4)) := by
  obtain ⟨A, c, rfl, ht, hA, hc, hm⟩ := h
  refine (refSeal_c w A xs.length c xs ht (fun e => ⟨by have := hA e; omega, hA e⟩) (by omega) hc hm 4 (by decide) (by decide)).mono ?_
  rintro e w' ⟨v', rfl, hb⟩
  exact ⟨v', rfl, hb.gave⟩
theorem Sealed_s (w : World) (v : Value) (xs : Bytes) (h : Src w v xs) (hn : xs.length ≤ 65536) : Calls Tryz.prog 94 #[v, .int .i64 4] w (Told w (.bool (isSealed xs 4))) := by
  obtain ⟨A, c, rfl, ht, hA, hc, hm⟩ := h
  exact Sealed_c w A xs.length c xs ht (fun e => ⟨by have := hA e; omega, hA e⟩) (by omega) hc hm 4 (by decide) (by decide)

def finE (c : Cur) : Int := if c.sp = true then 73 else 0
def finB (g : Int) (c : Cur) : Bytes := if c.sp = true then [] else if g = 1 then c.b else sealB c.b 4
/-- What Wrap makes of a head and a body. -/
def wrapC (k g n x : Int) (body : Bytes) : Cur := (stC k g n x).write body
theorem stC_len (k g n x : Int) : (stC k g n x).b.length = 256 := by
  unfold stC
  rw [Cur.put_len, Cur.take_b, Cur.put_len, Cur.put_len, Cur.put_len]
  show (List.replicate (size 256) 0).length = 256
  rw [List.length_replicate]
  rfl
theorem wrapC_len (k g n x : Int) (body : Bytes) : (wrapC k g n x body).b.length = 256 := by
  unfold wrapC
  rw [Cur.write_len, stC_len]
def wrapE (k g n x : Int) (body : Bytes) : Int := if (kindOk k && gen g) = true then finE (wrapC k g n x body) else 70
def wrapB (k g n x : Int) (body : Bytes) : Bytes := if (kindOk k && gen g) = true then finB g (wrapC k g n x body) else []
end Go.Proofs.YtopaponemjaenaaGreatDoor

/-
  putKid: a kid behind what the writer has.
-/
set_option linter.unusedVariables false
namespace Go.Proofs.YtopaponemjaenaaGreatDoor
open Go.RowKit

theorem Blk.pair {w : World} {g : Nat} {t : TypeId} {a b : Value} (h : Blk w g t [a, b]) : w.cell? ⟨g, 0, none⟩ = some a ∧ w.cell? ⟨g, 1, none⟩ = some b := ⟨h.cell 0, h.cell 1⟩
end Go.Proofs.YtopaponemjaenaaGreatDoor

/-
  putItem: an item behind what the writer has.
-/
set_option linter.unusedVariables false
namespace Go.Proofs.YtopaponemjaenaaGreatDoor
open Go.RowKit

/-- The cursor behind an item. -/
def itC (C : Cur) (g : Int) (n m : Nat) (s r : Int) (key val : Bytes) : Cur :=
  if far m r = true then ((((C.put n 1).put 1 1).put (long m s r) 2).write key).put r (tr g 4 8 8) else ((((C.put n 1).put 0 1).put (long m s r) 2).write key).write val
end Go.Proofs.YtopaponemjaenaaGreatDoor

/-
  HeadOf of the program.
-/
set_option linter.unusedVariables false
namespace Go.Proofs.YtopaponemjaenaaGreatDoor
open Go.RowKit

theorem results_cell_tmp {fn : Func} {P : Program} {p t : Tmp} {ty : TypeId} {tmps : Array Value} {w : World} {a : Addr} {v : Value} (h : fn.results = #[.cell p ty, .tmp t]) (ha : tmps.getD p undef = .pointer (some a)) (hl : (loadVar ty a).run P w = .ok v w) :
    (results fn tmps).run P w = .ok (.tuple #[v, tmps.getD t undef]) w := by
  rw [Array.getD_eq_getD_getElem?] at ha
  simp only [results, h]
  simp [ha, asAddr, hl]
/-- What HeadOf answers. -/
def hdBad (z : Int) : Value := .tuple #[.agg #[.int .i64 0, .int .i64 0, .int .i64 0, .int .i64 0], .int .i64 z]
def hdC (b : Bytes) (g : Int) : Cur := (((Cur.new (b.take (min b.length (tr g 8 16 16).toNat))).take 2).get 2).take (gap g)
def hdCnt (b : Bytes) (g : Int) : Nat := ((Cur.new (b.take (min b.length (tr g 8 16 16).toNat))).take 2).val 2
def hdV (b : Bytes) : Value := match b with
  | x0 :: x1 :: _ =>
    let k : Int := x0.toNat
    let g : Int := x1.toNat
    if b.length < 4 then hdBad 70 else if (kindOk k && gen g) = true then
      (if ((hdC b g).get (tr g 4 8 8)).sp = true then hdBad 72 else .tuple #[.agg #[.int .i64 k, .int .i64 g, .int .i64 (hdCnt b g), .int .i64 ((hdC b g).val (tr g 4 8 8))], .int .i64 0])
      else hdBad 70
  | _ => hdBad 70
theorem hdV_four (x0 x1 x2 x3 : UInt8) (r : Bytes) : hdV (x0 :: x1 :: x2 :: x3 :: r) = if (kindOk (x0.toNat : Int) && gen (x1.toNat : Int)) = true then
      (if ((hdC (x0 :: x1 :: x2 :: x3 :: r) x1.toNat).get (tr x1.toNat 4 8 8)).sp = true then hdBad 72 else .tuple #[.agg #[.int .i64 x0.toNat, .int .i64 x1.toNat, .int .i64 (hdCnt (x0 :: x1 :: x2 :: x3 :: r) x1.toNat), .int .i64 ((hdC (x0 :: x1 :: x2 :: x3 :: r) x1.toNat).val (tr x1.toNat 4 8 8))], .int .i64 0])
      else hdBad 70 := by
  unfold hdV
  exact if_neg (by simp only [List.length_cons]; omega)
end Go.Proofs.YtopaponemjaenaaGreatDoor

/-
  headFor, unplaced.
-/
set_option linter.unusedVariables false
namespace Go.Proofs.YtopaponemjaenaaGreatDoor
open Go.RowKit

def hfV (g : Int) (lf : Bool) (i k : Nat) : Value := .agg #[.int .i64 (if lf = true then 76 else 66), .int .i64 g, .int .i64 (if lf = true then (i : Int) else (k : Int)), .int .i64 0]
/-- Is a value too long for the leaf, with no place outside? -/
def unp (m : Nat) (r : Int) : Bool := far m r && decide (r = 0)
end Go.Proofs.YtopaponemjaenaaGreatDoor

/-
  number of the document.
-/
set_option linter.unusedVariables false
namespace Go.Proofs.YtopaponemjaenaaGreatDoor
open Go.RowKit

/-- A number, the lowest byte first; below 0: not below 2^63. -/
def rnum (xs : Bytes) : Int := if xs.length = 8 ∧ 127 < (xs.getD 7 0).toNat then -1 else (num xs : Nat)
theorem num_top {xs : Bytes} (h : xs.length ≤ 8) (h7 : ¬ (xs.length = 8 ∧ 127 < (xs.getD 7 0).toNat)) : num xs < 9223372036854775808 := by
  by_cases h8 : xs.length = 8
  · obtain ⟨ys, x, rfl⟩ : ∃ ys x, xs = ys ++ [x] := ⟨xs.dropLast, xs.getLast (by intro e; rw [e] at h8; simp at h8), (List.dropLast_concat_getLast _).symm⟩
    have hy : ys.length = 7 := by simp at h8; omega
    have hx : ((ys ++ [x]).getD 7 0) = x := by
      rw [List.getD_eq_getElem?_getD, List.getElem?_append_right (by omega), hy]
      rfl
    rw [hx] at h7
    have h1 := num_lt ys
    rw [hy] at h1
    rw [num_snoc, hy]
    have : x.toNat ≤ 127 := by omega
    omega
  · have h1 := num_lt xs
    have h2 : 256 ^ xs.length ≤ 256 ^ 7 := Nat.pow_le_pow_right (by decide) (by omega)
    omega
theorem num_drop {xs : Bytes} {k : Nat} {x : UInt8} (h : xs[k]? = some x) : num (xs.drop k) = x.toNat + 256 * num (xs.drop (k + 1)) := by
  rw [drop_cons h]
  rfl
theorem num_drop_le {xs : Bytes} (k : Nat) : num (xs.drop k) ≤ num xs := by
  induction k with
  | zero => simp
  | succ k ih =>
    by_cases hk : k < xs.length
    · have := num_drop (List.getElem?_eq_getElem hk)
      omega
    · rw [List.drop_eq_nil_of_le (by omega)]
      simp [num]
end Go.Proofs.YtopaponemjaenaaGreatDoor

/-
  Body of the program.
-/
set_option linter.unusedVariables false
namespace Go.Proofs.YtopaponemjaenaaGreatDoor
open Go.RowKit

/-- The error that HeadOf tells, and the parts of the head. -/
def hdE (b : Bytes) : Int := match b with
  | x0 :: x1 :: _ => if b.length < 4 then 70 else if (kindOk (x0.toNat : Int) && gen (x1.toNat : Int)) = true then (if ((hdC b x1.toNat).get (tr x1.toNat 4 8 8)).sp = true then 72 else 0) else 70
  | _ => 70
def hdK (b : Bytes) : Nat := (b.getD 0 0).toNat
def hdG (b : Bytes) : Nat := (b.getD 1 0).toNat
def hdN (b : Bytes) : Nat := hdCnt b (hdG b)
def hdX (b : Bytes) : Nat := (hdC b (hdG b)).val (tr (hdG b) 4 8 8)
def hdOk (b : Bytes) : Value := .tuple #[.agg #[.int .i64 (hdK b : Nat), .int .i64 (hdG b : Nat), .int .i64 (hdN b : Nat), .int .i64 (hdX b : Nat)], .int .i64 0]
theorem hdV_ok {b : Bytes} (h : hdE b = 0) : hdV b = hdOk b ∧ gen (hdG b : Int) = true ∧ 4 ≤ b.length := by
  unfold hdE at h
  split at h
  · rename_i x0 x1 r
    by_cases h4 : (x0 :: x1 :: r).length < 4
    · rw [if_pos h4] at h; cases h
    rw [if_neg h4] at h
    by_cases hk : (kindOk (x0.toNat : Int) && gen (x1.toNat : Int)) = true
    · rw [if_pos hk] at h
      by_cases hs : ((hdC (x0 :: x1 :: r) x1.toNat).get (tr x1.toNat 4 8 8)).sp = true
      · rw [if_pos hs] at h; cases h
      · refine ⟨?_, ?_, by omega⟩
        · unfold hdV
          simp only
          rw [if_neg h4, if_pos hk, if_neg hs]
          rfl
        · rw [Bool.and_eq_true] at hk
          exact hk.2
    · rw [if_neg hk] at h; cases h
  · cases h
theorem hdV_no : ∀ {b : Bytes}, hdE b ≠ 0 → hdV b = hdBad (hdE b)
  | [], _ => rfl
  | [_], _ => rfl
  | x0 :: x1 :: r, h => by
    have e1 : hdE (x0 :: x1 :: r) = if (x0 :: x1 :: r).length < 4 then 70 else if (kindOk (x0.toNat : Int) && gen (x1.toNat : Int)) = true then (if ((hdC (x0 :: x1 :: r) x1.toNat).get (tr x1.toNat 4 8 8)).sp = true then 72 else 0) else 70 := rfl
    unfold hdV
    rw [e1] at h ⊢
    by_cases h4 : (x0 :: x1 :: r).length < 4
    · simp only [if_pos h4]
    · simp only [if_neg h4] at h ⊢
      by_cases hk : (kindOk (x0.toNat : Int) && gen (x1.toNat : Int)) = true
      · simp only [if_pos hk] at h ⊢
        by_cases hs : ((hdC (x0 :: x1 :: r) x1.toNat).get (tr x1.toNat 4 8 8)).sp = true
        · simp only [if_pos hs]
        · simp only [if_neg hs] at h
          exact absurd rfl h
      · simp only [if_neg hk]
def bodyOf (b : Bytes) : Bytes := if hdE b = 0 ∧ b.length = 256 then b.drop (tr (hdG b) 8 16 16).toNat else []
end Go.Proofs.YtopaponemjaenaaGreatDoor

/-
  HeadOf of the document.
-/
set_option linter.unusedVariables false
namespace Go.Proofs.YtopaponemjaenaaGreatDoor
open Go.RowKit

/-- A part of bytes, as a slice value. -/
theorem src_part {w : World} {bl o n cap : Nat} {b : Bytes} (h : Src w (.slice (some ⟨bl, o, none⟩) n cap) b) {a z : Nat} (ha : a ≤ z) (hz : z ≤ n) : Src w (.slice (some ⟨bl, o + a, none⟩) (z - a) (cap - a)) ((b.drop a).take (z - a)) := by
  obtain ⟨A, c, e, ht, _, hc, hm⟩ := h
  simp only [Value.slice.injEq] at e
  obtain ⟨rfl, en, rfl⟩ := e
  have h1 := ht.drop a
  rw [Addr.add_lit] at h1
  have h2 := h1.take (z - a) (by omega)
  have hl : ((b.drop a).take (z - a)).length = z - a := by rw [List.length_take, List.length_drop]; omega
  exact ⟨some ⟨bl, o + a, none⟩, cap - a, by rw [hl], by rw [hl]; exact h2, (fun e => by cases e), by rw [hl]; omega, by omega⟩
/-- Where Next begins, and ends. -/
def nx0 (g : Nat) : Nat := if g = 1 then 4 else 8
def nx1 (g : Nat) : Nat := if g = 1 then 8 else 16
def rhdE (b : Bytes) : Int := if b.length < 4 then 70 else if (kindOk (hdK b : Nat) && gen (hdG b : Nat)) = true then (if b.length < nx1 (hdG b) ∨ rnum ((b.drop (nx0 (hdG b))).take (nx1 (hdG b) - nx0 (hdG b))) < 0 then 72 else 0) else 70
def rhdV (b : Bytes) : Value := if rhdE b = 0 then .tuple #[.agg #[.int .i64 (hdK b : Nat), .int .i64 (hdG b : Nat), .int .i64 (rnum ((b.drop 2).take 2)), .int .i64 (rnum ((b.drop (nx0 (hdG b))).take (nx1 (hdG b) - nx0 (hdG b))))], .int .i64 0] else hdBad (rhdE b)
end Go.Proofs.YtopaponemjaenaaGreatDoor

/-
  The program's head is the document's.
-/
set_option linter.unusedVariables false
namespace Go.Proofs.YtopaponemjaenaaGreatDoor
open Go.RowKit

theorem rnum_of {xs : Bytes} (h : xs.length ≤ 8) (hl : num xs < 9223372036854775808) : rnum xs = (num xs : Nat) := by
  unfold rnum
  by_cases h8 : xs.length = 8 ∧ 127 < (xs.getD 7 0).toNat
  · obtain ⟨h1, h2⟩ := h8
    obtain ⟨ys, x, rfl⟩ : ∃ ys x, xs = ys ++ [x] := ⟨xs.dropLast, xs.getLast (by intro e; rw [e] at h1; simp at h1), (List.dropLast_concat_getLast _).symm⟩
    have hy : ys.length = 7 := by simp at h1; omega
    have hx : ((ys ++ [x]).getD 7 0) = x := by
      rw [List.getD_eq_getElem?_getD, List.getElem?_append_right (by omega), hy]
      rfl
    rw [hx] at h2
    rw [num_snoc, hy] at hl
    omega
  · rw [if_neg h8]
theorem rnum_neg {xs : Bytes} (h : xs.length ≤ 8) (hl : ¬ num xs < 9223372036854775808) : rnum xs < 0 := by
  unfold rnum
  rw [if_pos (Classical.byContradiction fun h8 => hl (num_top h h8))]
  decide
theorem cur_take {L : Bytes} {a k : Nat} (h : a + k ≤ L.length) : (⟨L, a, false⟩ : Cur).take (k : Int) = ⟨L, a + k, false⟩ := by
  unfold Cur.take
  rw [if_pos (Cur.has_of rfl h)]
  simp
theorem cur_spoil {L : Bytes} {a k : Nat} (h : L.length < a + k) : (⟨L, a, false⟩ : Cur).take (k : Int) = ⟨L, a, true⟩ := by
  unfold Cur.take
  rw [if_neg]
  · rfl
  · intro hh
    obtain ⟨_, j, e, hj⟩ := Cur.has_parts hh
    simp only at hj
    omega
theorem cur_get {L : Bytes} {a k : Nat} (h : a + k ≤ L.length) (h1 : 1 ≤ k) (h8 : k ≤ 8) (hl : num ((L.drop a).take k) < 9223372036854775808) :
    (⟨L, a, false⟩ : Cur).get (k : Int) = ⟨L, a + k, false⟩ ∧ (⟨L, a, false⟩ : Cur).val (k : Int) = num ((L.drop a).take k) := by
  have hh : (⟨L, a, false⟩ : Cur).has (k : Int) = true := Cur.has_of rfl h
  have hg : (⟨L, a, false⟩ : Cur).got (k : Int) = (L.drop a).take k := by unfold Cur.got; rw [if_pos hh]; simp
  have hm : (⟨L, a, false⟩ : Cur).may (k : Int) = true := by
    unfold Cur.may wide
    rw [hh, hg]
    simp only [Bool.and_eq_true, decide_eq_true_eq, true_and]
    exact ⟨⟨by omega, by omega⟩, hl⟩
  unfold Cur.get Cur.val
  rw [if_pos hm, if_pos hm, hg]
  exact ⟨cur_take h, rfl⟩
theorem cur_get_no {L : Bytes} {a k : Nat} (h : L.length < a + k ∨ ¬ num ((L.drop a).take k) < 9223372036854775808) : ((⟨L, a, false⟩ : Cur).get (k : Int)).sp = true := by
  unfold Cur.get
  rw [if_neg]
  · rfl
  · intro hm
    unfold Cur.may at hm
    simp only [Bool.and_eq_true, decide_eq_true_eq] at hm
    obtain ⟨_, hh, hl⟩ := hm
    rcases h with h | h
    · obtain ⟨_, j, e, hj⟩ := Cur.has_parts hh
      simp only at hj
      omega
    · unfold Cur.got at hl
      rw [if_pos hh] at hl
      simp only [Int.toNat_natCast] at hl
      exact h hl
theorem cur_get_sp {L : Bytes} {a : Nat} (k : Int) : ((⟨L, a, true⟩ : Cur).get k).sp = true := by rw [Cur.get_sp rfl]
theorem take_part {b : Bytes} {m a k : Nat} (h : a + k ≤ m) : ((b.take m).drop a).take k = (b.drop a).take k := by
  rw [List.drop_take, List.take_take, Nat.min_eq_left (by omega)]
theorem hd_key {b : Bytes} {g : Nat} (hg : g = 1 ∨ g = 2 ∨ g = 3) (h4 : 4 ≤ b.length) :
    hdCnt b g = num ((b.drop 2).take 2) ∧
    ((b.length < nx1 g ∨ rnum ((b.drop (nx0 g)).take (nx1 g - nx0 g)) < 0) → ((hdC b g).get (tr (g : Int) 4 8 8)).sp = true) ∧
    (¬ (b.length < nx1 g ∨ rnum ((b.drop (nx0 g)).take (nx1 g - nx0 g)) < 0) → ((hdC b g).get (tr (g : Int) 4 8 8)).sp = false ∧ ((hdC b g).val (tr (g : Int) 4 8 8) : Int) = rnum ((b.drop (nx0 g)).take (nx1 g - nx0 g))) := by
  obtain ⟨m, hm⟩ : ∃ m, m = min b.length (tr (g : Int) 8 16 16).toNat := ⟨_, rfl⟩
  have hml : (b.take m).length = m := by rw [List.length_take, hm]; omega
  have hm4 : 4 ≤ m := by rw [hm]; rcases hg with rfl | rfl | rfl <;> simp [tr] <;> omega
  have s1 : (Cur.new (b.take m)).take 2 = ⟨b.take m, 2, false⟩ := cur_take (a := 0) (k := 2) (by omega)
  have n2 : num (((b.take m).drop 2).take 2) < 9223372036854775808 := by
    have := num_lt (((b.take m).drop 2).take 2)
    have h2 : (((b.take m).drop 2).take 2).length ≤ 2 := by rw [List.length_take]; omega
    have h3 : 256 ^ (((b.take m).drop 2).take 2).length ≤ 256 ^ 2 := Nat.pow_le_pow_right (by decide) h2
    omega
  obtain ⟨s2, s3⟩ := cur_get (L := b.take m) (a := 2) (k := 2) (by omega) (by decide) (by decide) n2
  have e0 : hdCnt b g = ((Cur.new (b.take m)).take 2).val 2 := by rw [hm]; rfl
  have e1 : hdC b g = (((Cur.new (b.take m)).take 2).get 2).take (gap (g : Int)) := by rw [hm]; rfl
  refine ⟨?_, ?_⟩
  · rw [e0, s1]
    exact s3.trans (congrArg num (take_part (by omega)))
  rw [e1, s1]
  rw [show ((⟨b.take m, 2, false⟩ : Cur).get 2) = ⟨b.take m, 4, false⟩ from s2]
  have main : ∀ (f w : Nat), nx0 g = f → nx1 g = f + w → gap (g : Int) = ((f - 4 : Nat) : Int) → tr (g : Int) 4 8 8 = (w : Int) → 4 ≤ f → 1 ≤ w → w ≤ 8 → (b.length < f + w ↔ m < f + w) →
      ((b.length < nx1 g ∨ rnum ((b.drop (nx0 g)).take (nx1 g - nx0 g)) < 0) → (((⟨b.take m, 4, false⟩ : Cur).take (gap (g : Int))).get (tr (g : Int) 4 8 8)).sp = true) ∧
      (¬ (b.length < nx1 g ∨ rnum ((b.drop (nx0 g)).take (nx1 g - nx0 g)) < 0) → (((⟨b.take m, 4, false⟩ : Cur).take (gap (g : Int))).get (tr (g : Int) 4 8 8)).sp = false ∧ ((((⟨b.take m, 4, false⟩ : Cur).take (gap (g : Int))).val (tr (g : Int) 4 8 8) : Nat) : Int) = rnum ((b.drop (nx0 g)).take (nx1 g - nx0 g))) := by
    intro f w h0 h1 h2 h3 hf hw1 hw8 hmm
    rw [h0, h1, h2, h3, Nat.add_sub_cancel_left]
    by_cases hs : m < f
    · rw [cur_spoil (by omega)]
      refine ⟨fun _ => cur_get_sp _, fun hn => absurd (.inl (hmm.2 (by omega))) hn⟩
    · rw [cur_take (by omega), show 4 + (f - 4) = f by omega]
      have hx8 : ((b.drop f).take w).length ≤ 8 := by rw [List.length_take]; omega
      by_cases hsh : m < f + w
      · refine ⟨fun _ => cur_get_no (.inl (by omega)), fun hn => absurd (.inl (hmm.2 hsh)) hn⟩
      · have tp : ((b.take m).drop f).take w = (b.drop f).take w := take_part (by omega)
        by_cases hb : num ((b.drop f).take w) < 9223372036854775808
        · obtain ⟨g1, g2⟩ := cur_get (L := b.take m) (a := f) (k := w) (by omega) hw1 hw8 (by rw [tp]; exact hb)
          have hr := rnum_of hx8 hb
          refine ⟨fun hh => ?_, fun _ => ⟨by rw [g1], by rw [g2, tp, hr]⟩⟩
          rcases hh with hh | hh
          · exact absurd (hmm.1 hh) hsh
          · rw [hr] at hh
            omega
        · exact ⟨fun _ => cur_get_no (.inr (by rw [tp]; exact hb)), fun hn => absurd (.inr (rnum_neg hx8 hb)) hn⟩
  rcases hg with rfl | rfl | rfl
  · exact main 4 4 rfl rfl rfl rfl (by decide) (by decide) (by decide) (by rw [hm]; simp [tr]; omega)
  · exact main 8 8 rfl rfl rfl rfl (by decide) (by decide) (by decide) (by rw [hm]; simp [tr]; omega)
  · exact main 8 8 rfl rfl rfl rfl (by decide) (by decide) (by decide) (by rw [hm]; simp [tr]; omega)
theorem gen_three {g : Nat} (h : gen (g : Int) = true) : g = 1 ∨ g = 2 ∨ g = 3 := by
  unfold gen at h
  rw [decide_eq_true_eq] at h
  omega
theorem hdE_eq : ∀ (b : Bytes), hdE b = rhdE b
  | [] => rfl
  | [_] => rfl
  | x0 :: x1 :: r => by
    have e1 : hdE (x0 :: x1 :: r) = if (x0 :: x1 :: r).length < 4 then 70 else if (kindOk (x0.toNat : Int) && gen (x1.toNat : Int)) = true then (if ((hdC (x0 :: x1 :: r) x1.toNat).get (tr x1.toNat 4 8 8)).sp = true then 72 else 0) else 70 := rfl
    rw [e1]
    unfold rhdE
    have ek : hdK (x0 :: x1 :: r) = x0.toNat := rfl
    have eg : hdG (x0 :: x1 :: r) = x1.toNat := rfl
    rw [ek, eg]
    by_cases h4 : (x0 :: x1 :: r).length < 4
    · rw [if_pos h4, if_pos h4]
    rw [if_neg h4, if_neg h4]
    by_cases hk : (kindOk (x0.toNat : Int) && gen (x1.toNat : Int)) = true
    · rw [if_pos hk, if_pos hk]
      rw [Bool.and_eq_true] at hk
      obtain ⟨_, k1, k2⟩ := hd_key (b := x0 :: x1 :: r) (gen_three hk.2) (by omega)
      by_cases hc : (x0 :: x1 :: r).length < nx1 x1.toNat ∨ rnum (((x0 :: x1 :: r).drop (nx0 x1.toNat)).take (nx1 x1.toNat - nx0 x1.toNat)) < 0
      · rw [if_pos (k1 hc), if_pos hc]
      · rw [if_neg (by rw [(k2 hc).1]; decide), if_neg hc]
    · rw [if_neg hk, if_neg hk]
theorem hd_eq (b : Bytes) : hdV b = rhdV b := by
  unfold rhdV
  rw [← hdE_eq b]
  by_cases h : hdE b = 0
  · obtain ⟨h1, h2, h3⟩ := hdV_ok h
    rw [h1, if_pos h]
    have hr := h
    rw [hdE_eq b] at hr
    unfold rhdE at hr
    rw [if_neg (by omega)] at hr
    obtain ⟨k0, k1, k2⟩ := hd_key (b := b) (gen_three h2) h3
    by_cases hk : (kindOk (hdK b : Int) && gen (hdG b : Int)) = true
    · rw [if_pos hk] at hr
      by_cases hc : b.length < nx1 (hdG b) ∨ rnum ((b.drop (nx0 (hdG b))).take (nx1 (hdG b) - nx0 (hdG b))) < 0
      · rw [if_pos hc] at hr; cases hr
      · have hx := (k2 hc).2
        have h22 : ((b.drop 2).take 2).length ≤ 2 := by rw [List.length_take]; omega
        have hn2 : num ((b.drop 2).take 2) < 9223372036854775808 := by
          have := num_lt ((b.drop 2).take 2)
          have h3 : 256 ^ ((b.drop 2).take 2).length ≤ 256 ^ 2 := Nat.pow_le_pow_right (by decide) h22
          omega
        unfold hdOk hdN hdX
        rw [k0, hx, rnum_of (by omega) hn2]
    · rw [if_neg hk] at hr; cases hr
  · rw [hdV_no h, if_neg h]
end Go.Proofs.YtopaponemjaenaaGreatDoor

/-
  A page as plain bytes: the head, the entries, noughts; what a writer makes of them. No memory here.
-/
set_option linter.unusedVariables false
namespace Go.Proofs.YtopaponemjaenaaGreatDoor

def serI (g : Int) (i : It) : Bytes :=
  le i.1.length 1 ++ (le (if far i.2.1.length i.2.2.2 = true then 1 else 0) 1 ++ (le (long i.2.1.length i.2.2.1 i.2.2.2).toNat 2 ++ (i.1 ++ (if far i.2.1.length i.2.2.2 = true then le i.2.2.2.toNat (tr g 4 8 8).toNat else i.2.1))))
def serK (g : Int) (k : Kd) : Bytes := le k.1.length 1 ++ (k.1 ++ le k.2.toNat (tr g 4 8 8).toNat)
def headB (k g n x : Nat) : Bytes := le k 1 ++ (le g 1 ++ (le n 2 ++ (List.replicate (gap g).toNat 0 ++ le x (tr g 4 8 8).toNat)))
/-- Bytes, filled up with noughts. -/
def padB (z : Nat) (p : Bytes) : Bytes := p ++ List.replicate (z - p.length) 0
theorem padB_length {z : Nat} {p : Bytes} (h : p.length ≤ z) : (padB z p).length = z := by unfold padB; rw [List.length_append, List.length_replicate]; omega
/-- A writer behind these bytes. -/
def fill (z : Nat) (p : Bytes) : Cur := ⟨padB z p, p.length, false⟩
theorem over_pad {z : Nat} {p xs : Bytes} (h : p.length + xs.length ≤ z) : over (padB z p) p.length xs = padB z (p ++ xs) := by
  unfold over padB
  rw [List.take_left, List.drop_append, List.drop_eq_nil_of_le (by omega), List.drop_replicate, List.nil_append, List.length_append, List.append_assoc]
  congr 3
  omega
theorem fill_write {z : Nat} {p xs : Bytes} (h : p.length + xs.length ≤ z) : (fill z p).write xs = fill z (p ++ xs) := by
  have hh : (fill z p).has (xs.length : Int) = true := Cur.has_of rfl (by show p.length + xs.length ≤ (padB z p).length; rw [padB_length (by omega)]; exact h)
  unfold Cur.write
  rw [if_pos hh]
  unfold fill
  simp only [over_pad h, List.length_append]
theorem fill_put {z : Nat} {p : Bytes} {n w : Int} {a k : Nat} (hf : fits n w = true) (ha : n.toNat = a) (hk : w.toNat = k) (h : p.length + k ≤ z) : (fill z p).put n w = fill z (p ++ le a k) := by
  unfold Cur.put
  rw [if_pos hf, ha, hk]
  exact fill_write (by rw [le_length]; exact h)
theorem fill_take {z : Nat} {p : Bytes} {n : Int} {k : Nat} (hn : n = (k : Int)) (h : p.length + k ≤ z) : (fill z p).take n = fill z (p ++ List.replicate k 0) := by
  subst hn
  have hh : (fill z p).has (k : Int) = true := Cur.has_of rfl (by show p.length + k ≤ (padB z p).length; rw [padB_length (by omega)]; exact h)
  unfold Cur.take
  rw [if_pos hh]
  unfold fill
  simp only [Int.toNat_natCast]
  have e : padB z p = padB z (p ++ List.replicate k 0) := by
    unfold padB
    rw [List.append_assoc, List.replicate_append_replicate, List.length_append, List.length_replicate]
    congr 2
    omega
  rw [← e, List.length_append, List.length_replicate]
theorem fits_nat {n k : Nat} {w : Int} (hw : w = (k : Int)) (h1 : 1 ≤ k) (h8 : k ≤ 8) (h : n < 256 ^ k) : fits (n : Int) w = true := by
  subst hw
  unfold fits wide
  simp only [Bool.and_eq_true, decide_eq_true_eq, Int.toNat_natCast]
  refine ⟨⟨by omega, by omega⟩, by omega, ?_⟩
  have : n / 256 ^ k = 0 := Nat.div_eq_of_lt h
  have h2 : ((n / 256 ^ k : Nat) : Int) = 0 := by omega
  rw [Int.natCast_ediv, Int.natCast_pow] at h2
  exact h2
theorem fill_put1 {z : Nat} {p : Bytes} {n : Nat} (hn : n < 256) (h : p.length + 1 ≤ z) : (fill z p).put (n : Int) 1 = fill z (p ++ le n 1) :=
  fill_put (k := 1) (fits_nat (w := 1) (k := 1) rfl (by decide) (by decide) (by omega)) (Int.toNat_natCast _) rfl h
theorem fill_put2 {z : Nat} {p : Bytes} {n : Nat} (hn : n < 65536) (h : p.length + 2 ≤ z) : (fill z p).put (n : Int) 2 = fill z (p ++ le n 2) :=
  fill_put (k := 2) (fits_nat (w := 2) (k := 2) rfl (by decide) (by decide) (by omega)) (Int.toNat_natCast _) rfl h
theorem fill_put_one {z : Nat} {p : Bytes} (h : p.length + 1 ≤ z) : (fill z p).put 1 1 = fill z (p ++ le 1 1) := fill_put1 (n := 1) (by decide) h
theorem fill_put_nil {z : Nat} {p : Bytes} (h : p.length + 1 ≤ z) : (fill z p).put 0 1 = fill z (p ++ le 0 1) := fill_put1 (n := 0) (by decide) h
theorem idw {g : Int} (hg : gen g = true) : ∃ k : Nat, tr g 4 8 8 = (k : Int) ∧ (tr g 4 8 8).toNat = k ∧ 4 ≤ k ∧ k ≤ 8 := by
  rcases (gen_iff g).1 hg with rfl | rfl | rfl
  · exact ⟨4, rfl, rfl, by decide, by decide⟩
  · exact ⟨8, rfl, rfl, by decide, by decide⟩
  · exact ⟨8, rfl, rfl, by decide, by decide⟩
theorem headB_length {k n x : Nat} {g : Nat} (hg : gen (g : Int) = true) : (headB k g n x).length = (tr (g : Int) 8 16 16).toNat := by
  unfold headB
  simp only [List.length_append, le_length, List.length_replicate]
  rcases gen_three hg with rfl | rfl | rfl <;> rfl
/-- What start makes of a head that may be. -/
theorem st_fill {k g n x : Nat} (hg : gen (g : Int) = true) (hk : k < 256) (hn : n < 65536) (hx : fits (x : Int) (tr (g : Int) 4 8 8) = true) : stC k g n x = fill 256 (headB k g n x) := by
  have e0 : Cur.make 256 = fill 256 [] := rfl
  have hg3 := gen_three hg
  have hw : ∃ u, gap (g : Int) = ((u : Nat) : Int) ∧ (gap (g : Int)).toNat = u ∧ u ≤ 4 := by
    rcases hg3 with rfl | rfl | rfl
    · exact ⟨0, rfl, rfl, by decide⟩
    · exact ⟨4, rfl, rfl, by decide⟩
    · exact ⟨4, rfl, rfl, by decide⟩
  obtain ⟨u, hu, hu2, hu4⟩ := hw
  obtain ⟨z, hz, hz2, hz4, hz8⟩ := idw hg
  unfold stC headB
  rw [e0]
  rw [fill_put1 (by omega) (by decide)]
  rw [fill_put1 (by omega) (by simp [le_length])]
  rw [fill_put2 (by omega) (by simp [le_length])]
  rw [fill_take (k := u) hu (by simp [le_length]; omega)]
  rw [fill_put (a := x) (k := z) hx (Int.toNat_natCast _) hz2 (by simp [le_length]; omega)]
  rw [hu2, hz2]
  simp only [List.nil_append, List.append_assoc]
/-- A writer behind an item that may be. -/
theorem it_fill {z : Nat} {p : Bytes} {g : Int} {i : It} (ho : okay g i.1.length i.2.1.length i.2.2.1 i.2.2.2 = true) (hl : p.length + (serI g i).length ≤ z) :
    itC (fill z p) g i.1.length i.2.1.length i.2.2.1 i.2.2.2 i.1 i.2.1 = fill z (p ++ serI g i) := by
  obtain ⟨key, val, s, r⟩ := i
  unfold okay putOk keyOk at ho
  simp only [Bool.and_eq_true, decide_eq_true_eq] at ho
  obtain ⟨hg, ⟨hk1, hk2⟩, hlg, hp⟩ := ho
  obtain ⟨k, hk, hkk, hk4, hk8⟩ := idw hg
  have hkey : key.length < 256 := by have : tr g 16 20 24 ≤ 24 := by rcases (gen_iff g).1 hg with rfl | rfl | rfl <;> decide
                                     omega
  have hlong : ∃ l : Nat, long val.length s r = (l : Int) ∧ l < 65536 := by
    have : tr g 400 800 1600 ≤ 1600 := by rcases (gen_iff g).1 hg with rfl | rfl | rfl <;> decide
    have h0 : 0 ≤ long val.length s r := by unfold long; split <;> omega
    exact ⟨(long val.length s r).toNat, by omega, by omega⟩
  obtain ⟨l, hl1, hl2⟩ := hlong
  unfold serI at hl ⊢
  unfold itC
  simp only [hl1, Int.toNat_natCast] at hl ⊢
  simp only [List.length_append, le_length] at hl
  by_cases hf : far val.length r = true
  · simp only [if_pos hf] at hl ⊢
    rw [hkk, le_length] at hl
    have hr : ∃ a : Nat, r = (a : Int) ∧ a < 256 ^ k := by
      unfold far at hf
      rw [decide_eq_true_eq] at hf
      rcases hp with ⟨h1, h2⟩ | ⟨_, h1, h2, _, _⟩
      · exact ⟨0, h1, Nat.pow_pos (by decide)⟩
      · refine ⟨r.toNat, by omega, ?_⟩
        have : 256 ^ 4 ≤ 256 ^ k := Nat.pow_le_pow_right (by decide) hk4
        omega
    obtain ⟨a, rfl, ha⟩ := hr
    rw [fill_put1 (by omega) (by omega)]
    rw [fill_put_one (by simp [le_length]; omega)]
    rw [fill_put2 (by omega) (by simp [le_length]; omega)]
    rw [fill_write (by simp [le_length]; omega)]
    rw [hk, fill_put (a := a) (k := k) (fits_nat rfl (by omega) hk8 ha) (Int.toNat_natCast _) (Int.toNat_natCast _) (by simp [le_length]; omega)]
    simp only [List.append_assoc, Int.toNat_natCast]
  · simp only [if_neg hf] at hl ⊢
    rw [fill_put1 (by omega) (by omega)]
    rw [fill_put_nil (by simp [le_length]; omega)]
    rw [fill_put2 (by omega) (by simp [le_length]; omega)]
    rw [fill_write (by simp [le_length]; omega)]
    rw [fill_write (by simp [le_length]; omega)]
    simp only [List.append_assoc]
/-- What the program puts behind the head: items, then kids. -/
def kdC (g : Int) (c : Cur) (k : Kd) : Cur := ((c.put k.1.length 1).write k.1).put k.2 (tr g 4 8 8)
def itD (g : Int) (c : Cur) (i : It) : Cur := itC c g i.1.length i.2.1.length i.2.2.1 i.2.2.2 i.1 i.2.1
theorem kd_fill {z : Nat} {p : Bytes} {g : Int} {y : Kd} (hg : gen g = true) (h1 : 0 ≤ y.2) (h2 : y.2 < 16384) (h3 : y.1.length < 256) (hl : p.length + (serK g y).length ≤ z) :
    kdC g (fill z p) y = fill z (p ++ serK g y) := by
  obtain ⟨key, r⟩ := y
  obtain ⟨k, hk, hkk, hk4, hk8⟩ := idw hg
  obtain ⟨a, rfl⟩ : ∃ a : Nat, r = (a : Int) := ⟨r.toNat, by simp only at h1; omega⟩
  have : 256 ^ 4 ≤ 256 ^ k := Nat.pow_le_pow_right (by decide) hk4
  simp only at h1 h2 h3
  unfold serK at hl ⊢
  unfold kdC
  simp only [List.length_append, le_length, hkk] at hl
  simp only
  rw [fill_put1 (by omega) (by omega)]
  rw [fill_write (by simp [le_length]; omega)]
  rw [hk, fill_put (a := a) (k := k) (fits_nat rfl (by omega) hk8 (by omega)) (Int.toNat_natCast _) (Int.toNat_natCast _) (by simp [le_length]; omega)]
  simp only [List.append_assoc, Int.toNat_natCast]
theorem serI_room {g : Int} {i : It} (ho : okay g i.1.length i.2.1.length i.2.2.1 i.2.2.2 = true) : ((serI g i).length : Int) = room g i.1.length i.2.1.length i.2.2.2 := by
  unfold okay at ho
  simp only [Bool.and_eq_true] at ho
  obtain ⟨k, hk, hkk, hk4, hk8⟩ := idw ho.1
  unfold serI room
  rw [if_pos ho.1]
  simp only [List.length_append, le_length]
  by_cases hf : far i.2.1.length i.2.2.2 = true
  · simp only [if_pos hf, le_length, hk]
    omega
  · simp only [if_neg hf]
    omega
theorem serK_room {g : Int} (hg : gen g = true) (y : Kd) : ((serK g y).length : Int) = kid g y.1.length := by
  obtain ⟨k, hk, hkk, hk4, hk8⟩ := idw hg
  unfold serK kid
  rw [if_pos hg]
  simp only [List.length_append, le_length, hk]
  omega
theorem its_fill {z : Nat} {g : Int} : ∀ {l : List It} {p : Bytes}, (∀ i ∈ l, okay g i.1.length i.2.1.length i.2.2.1 i.2.2.2 = true) → p.length + (l.flatMap (serI g)).length ≤ z →
    l.foldl (itD g) (fill z p) = fill z (p ++ l.flatMap (serI g))
  | [], p, _, _ => by simp
  | i :: l, p, ho, hl => by
    rw [List.flatMap_cons, List.length_append] at hl
    rw [List.foldl_cons, itD, it_fill (ho i (by simp)) (by omega), its_fill (fun j hj => ho j (by simp [hj])) (by rw [List.length_append]; omega), List.flatMap_cons, List.append_assoc]
theorem kds_fill {z : Nat} {g : Int} (hg : gen g = true) : ∀ {l : List Kd} {p : Bytes}, (∀ i ∈ l, 0 ≤ i.2 ∧ i.2 < 16384 ∧ i.1.length < 256) → p.length + (l.flatMap (serK g)).length ≤ z →
    l.foldl (kdC g) (fill z p) = fill z (p ++ l.flatMap (serK g))
  | [], p, _, _ => by simp
  | i :: l, p, ho, hl => by
    rw [List.flatMap_cons, List.length_append] at hl
    obtain ⟨h1, h2, h3⟩ := ho i (by simp)
    rw [List.foldl_cons, kd_fill hg h1 h2 h3 (by omega), kds_fill hg (fun j hj => ho j (by simp [hj])) (by rw [List.length_append]; omega), List.flatMap_cons, List.append_assoc]
theorem sum_its {g : Int} : ∀ {l : List It}, (∀ i ∈ l, okay g i.1.length i.2.1.length i.2.2.1 i.2.2.2 = true) → ((l.flatMap (serI g)).length : Int) = (l.map (irm g)).sum
  | [], _ => rfl
  | i :: l, ho => by
    have h1 := serI_room (ho i (by simp))
    have h2 := sum_its (l := l) fun j hj => ho j (by simp [hj])
    rw [List.flatMap_cons, List.length_append, List.map_cons, List.sum_cons, ← h2]
    unfold irm
    omega
theorem sum_kds {g : Int} (hg : gen g = true) : ∀ {l : List Kd}, ((l.flatMap (serK g)).length : Int) = (l.map (krm g)).sum
  | [] => rfl
  | i :: l => by
    have h1 := serK_room hg i
    have h2 := sum_kds hg (l := l)
    rw [List.flatMap_cons, List.length_append, List.map_cons, List.sum_cons, ← h2]
    unfold krm
    omega
end Go.Proofs.YtopaponemjaenaaGreatDoor
