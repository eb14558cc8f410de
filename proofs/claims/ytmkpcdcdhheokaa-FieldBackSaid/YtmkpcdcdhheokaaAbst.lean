/-
  A cursor as plain data: what each call makes of it; numbers in bytes. No memory here.
-/
import Derived.Test.YtmkpcdcdhheokaaMem
set_option linter.unusedVariables false
namespace Go.Proofs.Ytmkpcdcdhheokaa

abbrev Bytes := List UInt8
def cb (l : Bytes) : List Value := l.map fun b => .int .u8 b.toNat
theorem cb_length (l : Bytes) : (cb l).length = l.length := by simp [cb]
theorem cb_one (l : Bytes) : ∀ v ∈ cb l, v.oneCell' = true := by
  intro v hv
  simp only [cb, List.mem_map] at hv
  obtain ⟨b, _, rfl⟩ := hv
  rfl
theorem cb_append (a b : Bytes) : cb (a ++ b) = cb a ++ cb b := by simp [cb]
theorem cb_take (a : Bytes) (n : Nat) : cb (a.take n) = (cb a).take n := by simp [cb, List.map_take]
theorem cb_drop (a : Bytes) (n : Nat) : cb (a.drop n) = (cb a).drop n := by simp [cb, List.map_drop]
theorem cb_over (a : Bytes) (o : Nat) (b : Bytes) : cb (over a o b) = over (cb a) o (cb b) := over_map _ _ _ _
theorem cb_replicate (n : Nat) : cb (List.replicate n 0) = List.replicate n (.int .u8 0) := by simp [cb]

/-- n, the lowest byte first, in k bytes. -/
def le (n k : Nat) : Bytes := (List.range k).map fun i => UInt8.ofNat (n / 256 ^ i % 256)
def num : Bytes → Nat
  | [] => 0
  | x :: r => x.toNat + 256 * num r
def wide (width : Int) : Bool := decide (1 ≤ width) && decide (width ≤ 8)
def fits (n width : Int) : Bool := wide width && (decide (0 ≤ n) && decide (n / 256 ^ width.toNat = 0))

theorem le_length (n k : Nat) : (le n k).length = k := by simp [le]
theorem le_snoc (n k : Nat) : le n (k + 1) = le n k ++ [UInt8.ofNat (n / 256 ^ k % 256)] := by simp [le, List.range_succ]
theorem le_cons (n k : Nat) : le n (k + 1) = UInt8.ofNat (n % 256) :: le (n / 256) k := by
  simp only [le, List.range_succ_eq_map, List.map_cons, List.map_map, Nat.pow_zero, Nat.div_one]
  congr 1
  apply List.map_congr_left
  intro i _
  simp [Function.comp, Nat.pow_succ', Nat.div_div_eq_div_mul]
theorem num_lt : ∀ (xs : Bytes), num xs < 256 ^ xs.length
  | [] => by simp [num]
  | x :: r => by
    have h1 := num_lt r
    have h2 := UInt8.toNat_lt x
    simp only [num, List.length_cons, Nat.pow_succ']
    omega
theorem num_le : ∀ (k n : Nat), n < 256 ^ k → num (le n k) = n
  | 0, n, h => by simp [le, num]; simp at h; omega
  | k + 1, n, h => by
    rw [le_cons, num, num_le k (n / 256) (by rw [Nat.pow_succ] at h; exact Nat.div_lt_of_lt_mul (by omega))]
    simp
    omega
theorem num_snoc : ∀ (xs : Bytes) (x : UInt8), num (xs ++ [x]) = num xs + x.toNat * 256 ^ xs.length
  | [], x => by simp [num]
  | y :: r, x => by
    simp only [List.cons_append, num, num_snoc r x, List.length_cons, Nat.pow_succ']
    rw [Nat.mul_add, Nat.mul_left_comm, ← Nat.add_assoc]

theorem pow8 (k : Nat) (hk : k ≤ 8) : 256 ^ k ≤ 18446744073709551616 := Nat.le_trans (Nat.pow_le_pow_right (by decide) hk) (by decide)
theorem fits_parts {n width : Int} (h : fits n width = true) : ∃ (a k : Nat), n = a ∧ width = k ∧ 1 ≤ k ∧ k ≤ 8 ∧ a < 256 ^ k := by
  simp only [fits, wide, Bool.and_eq_true, decide_eq_true_eq] at h
  obtain ⟨⟨h1, h2⟩, h3, h4⟩ := h
  refine ⟨n.toNat, width.toNat, by omega, by omega, by omega, by omega, ?_⟩
  have h5 : ((n.toNat / 256 ^ width.toNat : Nat) : Int) = 0 := by
    rw [Int.natCast_ediv, Int.natCast_pow, Int.toNat_of_nonneg h3]
    exact h4
  have h6 : n.toNat / 256 ^ width.toNat = 0 := by omega
  rcases Nat.div_eq_zero_iff.1 h6 with h7 | h7
  · have := Nat.pow_pos (n := width.toNat) (show 0 < 256 by decide); omega
  · exact h7

structure Cur where
  b : Bytes
  at_ : Nat
  sp : Bool

structure Cur.WF (c : Cur) : Prop where
  at_ : c.at_ ≤ c.b.length
  len : c.b.length ≤ 1099511627776

def Cur.has (c : Cur) (n : Int) : Bool := !c.sp && (decide (0 ≤ n) && decide (n ≤ (c.b.length : Int) - c.at_))
def Cur.spoil (c : Cur) : Cur := { c with sp := true }
def Cur.take (c : Cur) (n : Int) : Cur := if c.has n = true then { c with at_ := c.at_ + n.toNat } else c.spoil
def Cur.got (c : Cur) (n : Int) : Bytes := if c.has n = true then (c.b.drop c.at_).take n.toNat else []
def Cur.write (c : Cur) (xs : Bytes) : Cur := if c.has xs.length = true then { c with b := over c.b c.at_ xs, at_ := c.at_ + xs.length } else c.spoil
def Cur.put (c : Cur) (n width : Int) : Cur := if fits n width = true then c.write (le n.toNat width.toNat) else c.spoil
/-- Can a number of so many bytes be read? -/
def Cur.may (c : Cur) (width : Int) : Bool := wide width && (c.has width && decide (num (c.got width) < 9223372036854775808))
def Cur.get (c : Cur) (width : Int) : Cur := if c.may width = true then c.take width else c.spoil
def Cur.val (c : Cur) (width : Int) : Nat := if c.may width = true then num (c.got width) else 0
def Cur.err (c : Cur) : Int := if c.sp = true then 30 else 0
def Cur.left (c : Cur) : Int := (c.b.length : Int) - c.at_
def Cur.new (b : Bytes) : Cur := ⟨b, 0, false⟩
def size (n : Int) : Nat := if 0 ≤ n ∧ n ≤ 65536 then n.toNat else 0
def Cur.make (n : Int) : Cur := Cur.new (List.replicate (size n) 0)

theorem Cur.has_parts {c : Cur} {n : Int} (h : c.has n = true) : c.sp = false ∧ ∃ k : Nat, n = k ∧ c.at_ + k ≤ c.b.length := by
  simp only [Cur.has, Bool.and_eq_true, decide_eq_true_eq, Bool.not_eq_true'] at h
  exact ⟨h.1, n.toNat, by omega, by omega⟩
theorem Cur.has_of {c : Cur} {k : Nat} (h : c.sp = false) (hk : c.at_ + k ≤ c.b.length) : c.has k = true := by
  simp only [Cur.has, h, Bool.not_false, Bool.true_and, Bool.and_eq_true, decide_eq_true_eq]
  omega
theorem Cur.got_length {c : Cur} {n : Int} (h : c.has n = true) : (c.got n).length = n.toNat := by
  obtain ⟨_, k, rfl, hk⟩ := Cur.has_parts h
  rw [Cur.got, if_pos h]
  simp
  omega
theorem Cur.got_no {c : Cur} {n : Int} (h : c.has n = false) : c.got n = [] := by rw [Cur.got, h]; rfl
theorem Cur.WF.spoil {c : Cur} (h : c.WF) : c.spoil.WF := ⟨h.at_, h.len⟩
theorem Cur.WF.take {c : Cur} (h : c.WF) (n : Int) : (c.take n).WF := by
  unfold Cur.take
  split
  · rename_i hn
    obtain ⟨_, k, rfl, hk⟩ := Cur.has_parts hn
    exact ⟨by simpa using hk, h.len⟩
  · exact h.spoil
theorem Cur.take_b (c : Cur) (n : Int) : (c.take n).b = c.b := by unfold Cur.take; split <;> rfl
theorem Cur.write_len (c : Cur) (xs : Bytes) : (c.write xs).b.length = c.b.length := by
  unfold Cur.write
  split
  · rename_i hn
    obtain ⟨_, k, e, hk⟩ := Cur.has_parts hn
    exact over_length _ _ _ (by omega)
  · rfl
theorem Cur.WF.write {c : Cur} (h : c.WF) (xs : Bytes) : (c.write xs).WF := by
  have hl := Cur.write_len c xs
  refine ⟨?_, by rw [hl]; exact h.len⟩
  rw [hl]
  unfold Cur.write
  split
  · rename_i hn
    obtain ⟨_, k, e, hk⟩ := Cur.has_parts hn
    show c.at_ + xs.length ≤ _
    omega
  · exact h.at_
theorem Cur.put_len (c : Cur) (n width : Int) : (c.put n width).b.length = c.b.length := by
  unfold Cur.put
  split
  · exact Cur.write_len _ _
  · rfl
theorem Cur.WF.put {c : Cur} (h : c.WF) (n width : Int) : (c.put n width).WF := by
  unfold Cur.put
  split
  · exact h.write _
  · exact h.spoil
theorem Cur.WF.get {c : Cur} (h : c.WF) (n : Int) : (c.get n).WF := by
  unfold Cur.get
  split
  · exact h.take _
  · exact h.spoil
theorem Cur.get_b (c : Cur) (n : Int) : (c.get n).b = c.b := by
  unfold Cur.get
  split
  · exact Cur.take_b _ _
  · rfl
theorem size_le (n : Int) : size n ≤ 65536 := by unfold size; split <;> omega
theorem Cur.WF.make (n : Int) : (Cur.make n).WF := ⟨Nat.zero_le _, by have := size_le n; simp [Cur.make, Cur.new]; omega⟩
theorem Cur.has_sp {c : Cur} (h : c.sp = true) (n : Int) : c.has n = false := by simp [Cur.has, h]
theorem Cur.take_sp {c : Cur} (h : c.sp = true) (n : Int) : c.take n = c := by
  rw [Cur.take, Cur.has_sp h]
  cases c
  cases h
  rfl
theorem Cur.spoil_sp {c : Cur} (h : c.sp = true) : c.spoil = c := by cases c; cases h; rfl
theorem Cur.write_sp {c : Cur} (h : c.sp = true) (xs : Bytes) : c.write xs = c := by
  rw [Cur.write, Cur.has_sp h]
  exact Cur.spoil_sp h
theorem Cur.put_sp {c : Cur} (h : c.sp = true) (n width : Int) : c.put n width = c := by
  unfold Cur.put
  split
  · exact Cur.write_sp h _
  · exact Cur.spoil_sp h
theorem Cur.may_sp {c : Cur} (h : c.sp = true) (n : Int) : c.may n = false := by simp [Cur.may, Cur.has_sp h]
theorem Cur.get_sp {c : Cur} (h : c.sp = true) (n : Int) : c.get n = c := by
  rw [Cur.get, Cur.may_sp h]
  exact Cur.spoil_sp h

end Go.Proofs.Ytmkpcdcdhheokaa
