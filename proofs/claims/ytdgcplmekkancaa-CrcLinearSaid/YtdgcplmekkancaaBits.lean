/-
  A row of bits, divided, is the sum: plain lists.
-/
import Derived.Test.YtdgcplmekkancaaSums
set_option linter.unusedVariables false
namespace Go.Proofs.Ytdgcplmekkancaa

def byteBits : Nat → Nat → List Bool
  | 0, _ => []
  | k + 1, n => decide (n % 2 = 1) :: byteBits k (n / 2)
def bitsOf (l : Bytes) : List Bool := l.flatMap fun x => byteBits 8 x.toNat

theorem byteBits_length (k n : Nat) : (byteBits k n).length = k := by
  induction k generalizing n with
  | zero => rfl
  | succ k ih => simp [byteBits, ih]
theorem byteBits_snoc (k n : Nat) : byteBits (k + 1) n = byteBits k n ++ [decide (n / 2 ^ k % 2 = 1)] := by
  induction k generalizing n with
  | zero => simp [byteBits]
  | succ k ih =>
    have e : n / 2 / 2 ^ k = n / 2 ^ (k + 1) := by rw [Nat.div_div_eq_div_mul, Nat.pow_succ, Nat.mul_comm]
    show decide (n % 2 = 1) :: byteBits (k + 1) (n / 2) = decide (n % 2 = 1) :: byteBits k (n / 2) ++ _
    rw [ih, e]
    rfl
theorem bitsOf_nil : bitsOf [] = [] := rfl
theorem bitsOf_length (l : Bytes) : (bitsOf l).length = 8 * l.length := by
  induction l with
  | nil => rfl
  | cons x l ih => simp only [bitsOf, List.flatMap_cons, List.length_append, byteBits_length, List.length_cons] at ih ⊢; omega
theorem bitsOf_snoc (l : Bytes) (k : Nat) (x : UInt8) (h : l[k]? = some x) : bitsOf (l.take (k + 1)) = bitsOf (l.take k) ++ byteBits 8 x.toNat := by
  rw [List.take_add_one, h]
  simp [bitsOf]

def bit (b : Bool) : Nat := if b then 1 else 0
/-- What a row of bits makes of c. -/
def inj (c : Nat) (l : List Bool) : Nat := l.foldl (fun c b => bstep (c ^^^ bit b)) c
theorem inj_append (c : Nat) (a b : List Bool) : inj c (a ++ b) = inj (inj c a) b := List.foldl_append

theorem bit_mod (n : Nat) : bit (decide (n % 2 = 1)) = n % 2 := by
  rcases Nat.mod_two_eq_zero_or_one n with h | h <;> simp [bit, h]
theorem xor_split (x : Nat) : (x % 2) ^^^ (2 * (x / 2)) = x := by
  apply Nat.eq_of_testBit_eq
  intro i
  rw [Nat.testBit_xor]
  cases i with
  | zero =>
    rw [Nat.testBit_zero, Nat.testBit_zero, Nat.testBit_zero, Nat.mul_mod_right, Nat.mod_mod]
    simp
  | succ i =>
    rw [Nat.testBit_succ, Nat.testBit_succ, Nat.testBit_succ]
    rw [show x % 2 / 2 = 0 by omega, show 2 * (x / 2) / 2 = x / 2 by omega]
    simp
theorem bstep_bit (c x : Nat) : bstep (c ^^^ x) = bstep (c ^^^ (x % 2)) ^^^ (x / 2) := by
  have h : c ^^^ x = (c ^^^ (x % 2)) ^^^ (2 * (x / 2)) := by rw [Nat.xor_assoc, xor_split]
  rw [h, bstep_xor, bstep_two]
theorem inj_byteBits (k c x : Nat) : inj c (byteBits k x) ^^^ (x / 2 ^ k) = bsteps k (c ^^^ x) := by
  induction k generalizing c x with
  | zero => show c ^^^ (x / 1) = _; rw [Nat.div_one]; rfl
  | succ k ih =>
    show inj (bstep (c ^^^ bit (decide (x % 2 = 1)))) (byteBits k (x / 2)) ^^^ _ = bsteps k (bstep (c ^^^ x))
    rw [bit_mod, bstep_bit c x, ← ih, Nat.div_div_eq_div_mul, Nat.pow_succ, Nat.mul_comm 2]
theorem inj_byte (c : Nat) (x : UInt8) : inj c (byteBits 8 x.toNat) = bsteps 8 (c ^^^ x.toNat) := by
  have := inj_byteBits 8 c x.toNat
  rw [show x.toNat / 2 ^ 8 = 0 by have := u8_lt x; omega, Nat.xor_zero] at this
  exact this
theorem inj_bitsOf (c : Nat) (l : Bytes) : inj c (bitsOf l) = run c l := by
  induction l generalizing c with
  | nil => rfl
  | cons x l ih =>
    show inj c (byteBits 8 x.toNat ++ bitsOf l) = _
    rw [inj_append, inj_byte, ih]
    rfl
theorem bit_lt (b : Bool) : bit b < 4294967296 := by cases b <;> decide
theorem inj_lt {c : Nat} (h : c < 4294967296) (l : List Bool) : inj c l < 4294967296 := by
  induction l generalizing c with
  | nil => exact h
  | cons b l ih => exact ih (bstep_lt (xor_lt h (bit_lt b)))

/-- The bits, the first ones turned where c has a bit. -/
def regX (c : Nat) (l : List Bool) : List Bool := l.mapIdx fun j b => b ^^ c.testBit j
theorem regX_get (c : Nat) (l : List Bool) (j : Nat) : (regX c l)[j]? = l[j]?.map fun b => b ^^ c.testBit j := by
  simp [regX, List.getElem?_mapIdx]
theorem regX_length (c : Nat) (l : List Bool) : (regX c l).length = l.length := by simp [regX]

/-- Behind i rounds of the division. -/
def divs (o : List Bool) (i : Nat) : List Bool := List.replicate i false ++ regX (inj M32 (o.take i)) (o.drop i)
theorem divs_length (o : List Bool) (i : Nat) (h : i ≤ o.length) : (divs o i).length = o.length := by
  simp [divs, regX_length]; omega
theorem divs_low (o : List Bool) (i m : Nat) (h : m < i) : (divs o i)[m]? = some false := by
  unfold divs
  rw [List.getElem?_append_left (by simpa using h), List.getElem?_replicate, if_pos h]
theorem divs_high (o : List Bool) (i m : Nat) (h : i ≤ m) : (divs o i)[m]? = o[m]?.map fun b => b ^^ (inj M32 (o.take i)).testBit (m - i) := by
  unfold divs
  rw [List.getElem?_append_right (by simpa using h), List.length_replicate, regX_get, List.getElem?_drop]
  congr 2
  omega

def pows : List Nat := [28, 27, 26, 25, 23, 22, 20, 19, 18, 14, 13, 11, 10, 9, 8, 6, 0]
def flip1 (l : List Bool) (m : Nat) : List Bool := l.set m (!(l[m]?.getD false))
def flips (l : List Bool) (i : Nat) (ps : List Nat) : List Bool := ps.foldl (fun l p => flip1 l (i + 32 - p)) l
theorem flip1_length (l : List Bool) (m : Nat) : (flip1 l m).length = l.length := by simp [flip1]
theorem flip1_get (l : List Bool) (m j : Nat) : (flip1 l m)[j]? = l[j]?.map fun b => b ^^ decide (j = m) := by
  unfold flip1
  rw [List.getElem?_set]
  by_cases h : m = j
  · subst h
    rcases Nat.lt_or_ge m l.length with hl | hl
    · simp [hl]
    · rw [List.getElem?_eq_none hl]; simp; omega
  · rw [if_neg h]
    have : decide (j = m) = false := by simpa using fun e => h e.symm
    rw [this]
    simp
theorem flips_length (l : List Bool) (i : Nat) (ps : List Nat) : (flips l i ps).length = l.length := by
  induction ps generalizing l with
  | nil => rfl
  | cons p ps ih => show (flips (flip1 l _) i ps).length = _; rw [ih, flip1_length]
def odd (i j : Nat) : List Nat → Bool
  | [] => false
  | p :: ps => decide (j = i + 32 - p) ^^ odd i j ps
theorem flips_get (l : List Bool) (i j : Nat) (ps : List Nat) : (flips l i ps)[j]? = l[j]?.map fun b => b ^^ odd i j ps := by
  induction ps generalizing l with
  | nil => simp [flips, odd]
  | cons p ps ih =>
    show (flips (flip1 l _) i ps)[j]? = _
    rw [ih, flip1_get, Option.map_map]
    congr 1
    funext b
    simp [odd, Bool.xor_assoc]
theorem flips_snoc (l : List Bool) (i k p : Nat) (h : pows[k]? = some p) : flips l i (pows.take (k + 1)) = flip1 (flips l i (pows.take k)) (i + 32 - p) := by
  rw [List.take_add_one, h]
  simp [flips, List.foldl_append]

theorem odd_shift (i d : Nat) (ps : List Nat) (h : ∀ p ∈ ps, p ≤ 31) : odd i (i + d) ps = odd 0 d ps := by
  induction ps with
  | nil => rfl
  | cons p ps ih =>
    have hp := h p (List.mem_cons_self ..)
    rw [odd, odd, ih fun q hq => h q (List.mem_cons_of_mem _ hq)]
    congr 2
    apply propext
    omega
theorem pows_le : ∀ p ∈ pows, p ≤ 31 := by decide
theorem odd_low (i d : Nat) (ps : List Nat) (h : ∀ p ∈ ps, p ≤ 31) (hd : d ≤ i) : odd i d ps = false := by
  induction ps with
  | nil => rfl
  | cons p ps ih =>
    have hp := h p (List.mem_cons_self ..)
    rw [odd, ih fun q hq => h q (List.mem_cons_of_mem _ hq)]
    have : decide (d = i + 32 - p) = false := by simp; omega
    rw [this]
    rfl
theorem odd_high (d : Nat) (ps : List Nat) (hd : 32 < d) : odd 0 d ps = false := by
  induction ps with
  | nil => rfl
  | cons p ps ih =>
    rw [odd, ih]
    have : decide (d = 0 + 32 - p) = false := by simp; omega
    rw [this]
    rfl
theorem poly_low : ∀ j, j < 32 → odd 0 (j + 1) pows = (2197175160 : Nat).testBit j := by decide
theorem poly_odd (j : Nat) : odd 0 (j + 1) pows = (2197175160 : Nat).testBit j := by
  by_cases h : j < 32
  · exact poly_low j h
  · rw [odd_high _ _ (by omega)]
    symm
    apply Nat.testBit_lt_two_pow
    calc 2197175160 < 2 ^ 32 := by decide
      _ ≤ 2 ^ j := Nat.pow_le_pow_right (by omega) (by omega)

theorem bstep_get (c j : Nat) : (bstep c).testBit j = (c.testBit (j + 1) ^^ (c.testBit 0 && (2197175160 : Nat).testBit j)) := by
  unfold bstep
  rw [Nat.testBit_xor, Nat.testBit_succ, Nat.testBit_zero]
  rcases Nat.mod_two_eq_zero_or_one c with h | h
  · rw [h, Nat.zero_mul]; simp
  · rw [h, Nat.one_mul]; simp
theorem bit_get (b : Bool) (j : Nat) : (bit b).testBit j = (b && decide (j = 0)) := by
  cases b
  · simp [bit]
  · cases j with
    | zero => rfl
    | succ j => rw [Nat.testBit_succ]; show Nat.testBit (1 / 2) j = _; simp
theorem inj_take_succ (o : List Bool) (i : Nat) (b : Bool) (h : o[i]? = some b) : inj M32 (o.take (i + 1)) = bstep (inj M32 (o.take i) ^^^ bit b) := by
  rw [List.take_add_one, h, inj_append]
  rfl

/-- The bit at the head of the round. -/
theorem divs_head (o : List Bool) (i : Nat) (b : Bool) (h : o[i]? = some b) : (divs o i)[i]? = some (b ^^ (inj M32 (o.take i)).testBit 0) := by
  rw [divs_high o i i (Nat.le_refl _), h, Nat.sub_self]
  rfl
theorem divs_keep (o : List Bool) (i : Nat) (b : Bool) (h : o[i]? = some b) (hb : (b ^^ (inj M32 (o.take i)).testBit 0) = false) : divs o (i + 1) = divs o i := by
  apply List.ext_getElem?
  intro m
  rcases Nat.lt_or_ge m i with h1 | h1
  · rw [divs_low _ _ _ (by omega), divs_low _ _ _ h1]
  · rcases Nat.lt_or_ge i m with h2 | h2
    · rw [divs_high _ _ _ h2, divs_high _ _ _ h1, inj_take_succ o i b h]
      congr 1
      funext u
      rw [bstep_get, Nat.testBit_xor, Nat.testBit_xor, bit_get, bit_get]
      have e : m - (i + 1) + 1 = m - i := by omega
      rw [e]
      have e2 : decide (m - i = 0) = false := by simp; omega
      rw [e2]
      simp only [decide_true, Bool.and_true, Bool.and_false, Bool.xor_false]
      rw [Bool.xor_comm] at hb
      rw [hb]
      simp
    · obtain rfl : m = i := by omega
      rw [divs_low _ _ _ (by omega), divs_head o m b h, hb]
theorem divs_turn (o : List Bool) (i : Nat) (b : Bool) (h : o[i]? = some b) (hb : (b ^^ (inj M32 (o.take i)).testBit 0) = true) : flips ((divs o i).set i false) i pows = divs o (i + 1) := by
  apply List.ext_getElem?
  intro m
  rw [flips_get, List.getElem?_set]
  rcases Nat.lt_or_ge m i with h1 | h1
  · rw [if_neg (by omega), divs_low _ _ _ h1, divs_low _ _ _ (by omega), odd_low _ _ _ pows_le (by omega)]
    rfl
  · rcases Nat.lt_or_ge i m with h2 | h2
    · rw [if_neg (by omega), divs_high _ _ _ h2, divs_high _ _ _ h1, inj_take_succ o i b h, Option.map_map]
      congr 1
      funext u
      simp only [Function.comp]
      obtain ⟨j, rfl⟩ : ∃ j, m = i + (j + 1) := ⟨m - i - 1, by omega⟩
      rw [odd_shift _ _ _ pows_le, poly_odd, bstep_get, Nat.testBit_xor, Nat.testBit_xor, bit_get, bit_get]
      have e : i + (j + 1) - (i + 1) = j := by omega
      have e' : i + (j + 1) - i = j + 1 := by omega
      rw [e, e']
      have e2 : decide (j + 1 = 0) = false := by simp
      rw [e2]
      simp only [decide_true, Bool.and_true, Bool.and_false, Bool.xor_false]
      rw [Bool.xor_comm] at hb
      rw [hb]
      simp
    · obtain rfl : m = i := by omega
      have hl : m < (divs o m).length := by
        rw [divs_length _ _ (by have := (List.getElem?_eq_some_iff.1 h).1; omega)]
        exact (List.getElem?_eq_some_iff.1 h).1
      rw [if_pos rfl, if_pos hl, odd_low _ _ _ pows_le (by omega), divs_low _ _ _ (by omega)]
      rfl

/-- The bits of a message, and noughts behind. -/
def orig (l : Bytes) : List Bool := bitsOf l ++ List.replicate 32 false
theorem orig_length (l : Bytes) : (orig l).length = 8 * l.length + 32 := by simp [orig, bitsOf_length]
theorem divs_end (l : Bytes) (j : Nat) (hj : j < 32) : (divs (orig l) (8 * l.length))[8 * l.length + j]? = some ((run M32 l).testBit j) := by
  rw [divs_high _ _ _ (by omega)]
  have e1 : (orig l).take (8 * l.length) = bitsOf l := by
    unfold orig
    rw [List.take_left' (bitsOf_length l)]
  have e2 : (orig l)[8 * l.length + j]? = some false := by
    unfold orig
    rw [List.getElem?_append_right (by rw [bitsOf_length]; omega), bitsOf_length, List.getElem?_replicate, if_pos (by omega)]
  rw [e1, e2, inj_bitsOf, Nat.add_sub_cancel_left]
  simp
theorem divs_zero (o : List Bool) : divs o 0 = regX M32 o := by simp [divs, inj]
theorem M32_get (j : Nat) : M32.testBit j = decide (j < 32) := by
  have : M32 = 2 ^ 32 - 1 := rfl
  rw [this, Nat.testBit_two_pow_sub_one]
theorem turn_end {c : Nat} (k : Nat) (hk : k < 32) : (c ^^^ M32) / 2 ^ k = 2 * ((c ^^^ M32) / 2 ^ (k + 1)) + (if c.testBit k then 0 else 1) := by
  have h1 : ((c ^^^ M32) / 2 ^ k) % 2 = (if c.testBit k then 0 else 1) := by
    have h2 := Nat.testBit_xor c M32 k
    rw [M32_get, Nat.testBit_eq_decide_div_mod_eq] at h2
    have hd : decide (k < 32) = true := by simpa using hk
    rw [hd] at h2
    rcases Nat.mod_two_eq_zero_or_one ((c ^^^ M32) / 2 ^ k) with h | h
    · rw [h] at h2 ⊢
      cases hc : c.testBit k
      · rw [hc] at h2; simp at h2
      · rfl
    · rw [h] at h2 ⊢
      cases hc : c.testBit k
      · rfl
      · rw [hc] at h2; simp at h2
  rw [← h1, Nat.pow_succ, ← Nat.div_div_eq_div_mul]
  omega
end Go.Proofs.Ytdgcplmekkancaa
