/-
  One bit turned, or two neighbours: plain lists.
-/
import Derived.Test.YtdgcplmekkancaaSeas
set_option linter.unusedVariables false
namespace Go.Proofs.Ytdgcplmekkancaa

def row (n : Nat) (f : Nat → UInt8) : Bytes := (List.range n).map f
theorem row_get (n : Nat) (f : Nat → UInt8) (j : Nat) : (row n f)[j]? = if j < n then some (f j) else none := by
  unfold row
  rw [List.getElem?_map]
  by_cases h : j < n
  · rw [List.getElem?_range h, if_pos h]; rfl
  · rw [if_neg h, List.getElem?_eq_none (by simpa using h)]; rfl
theorem row_length (n : Nat) (f : Nat → UInt8) : (row n f).length = n := by simp [row]
theorem row_oth (n : Nat) (f : Nat → UInt8) (a : Nat) (h : a + 4 ≤ n) : oth (row n f) a = row (n - 4) fun j => if j < a then f j else f (j + 4) := by
  apply List.ext_getElem?
  intro j
  unfold oth
  rw [row_get, List.getElem?_append, List.length_take, row_length, List.getElem?_take, List.getElem?_drop, row_get, row_get, Nat.min_eq_left (by omega)]
  by_cases h1 : j < a
  · rw [if_pos h1, if_pos h1, if_pos (by omega), if_pos (by omega), if_pos h1]
  · rw [if_neg h1, if_neg h1]
    by_cases h2 : j < n - 4
    · rw [if_pos (by omega), if_pos h2]
      congr 2
      omega
    · rw [if_neg (by omega), if_neg h2]
theorem row_four (n : Nat) (f : Nat → UInt8) (a : Nat) (h : a + 4 ≤ n) : ((row n f).drop a).take 4 = [f a, f (a + 1), f (a + 2), f (a + 3)] := by
  apply List.ext_getElem?
  intro j
  rw [List.getElem?_take, List.getElem?_drop, row_get]
  by_cases h4 : j < 4
  · rw [if_pos h4, if_pos (by omega)]
    have : j = 0 ∨ j = 1 ∨ j = 2 ∨ j = 3 := by omega
    rcases this with rfl | rfl | rfl | rfl <;> rfl
  · rw [if_neg h4, List.getElem?_eq_none (by simp; omega)]
theorem row_split (p q : Nat) (f : Nat → UInt8) : row (p + q) f = row p f ++ row q fun j => f (j + p) := by
  apply List.ext_getElem?
  intro j
  rw [List.getElem?_append, row_length, row_get, row_get, row_get]
  by_cases h : j < p
  · rw [if_pos h, if_pos h, if_pos (by omega)]
  · rw [if_neg h]
    by_cases h2 : j - p < q
    · rw [if_pos h2, if_pos (by omega)]
      congr 2
      omega
    · rw [if_neg h2, if_neg (by omega)]
theorem row_zero (n : Nat) (f : Nat → UInt8) (h : ∀ j, j < n → f j = 0) : row n f = List.replicate n 0 := by
  apply List.ext_getElem?
  intro j
  rw [row_get, List.getElem?_replicate]
  by_cases h1 : j < n
  · rw [if_pos h1, if_pos h1, h j h1]
  · rw [if_neg h1, if_neg h1]
theorem row_one (f : Nat → UInt8) : row 1 f = [f 0] := rfl
theorem row_two (f : Nat → UInt8) : row 2 f = [f 0, f 1] := rfl

/-- A single byte that is not nought. -/
theorem run_single (N i : Nat) (f : Nat → UInt8) (hi : i < N) (h0 : ∀ j, j < N → j ≠ i → f j = 0) : run 0 (row N f) = bsteps (8 * (N - i - 1)) (bsteps 8 (f i).toNat) := by
  obtain ⟨q, rfl⟩ : ∃ q, N = i + (1 + q) := ⟨N - i - 1, by omega⟩
  rw [row_split, row_split, row_one, run_append, row_zero i f (fun j hj => h0 j (by omega) (by omega)), run_zeros, run_append]
  rw [row_zero q _ (fun j hj => h0 _ (by omega) (by omega)), run_bsteps, run_cons, run_nil, Nat.zero_xor, Nat.zero_add]
  congr 2
  omega
theorem run_pair (N i : Nat) (f : Nat → UInt8) (hi : i + 1 < N) (h0 : ∀ j, j < N → j ≠ i → j ≠ i + 1 → f j = 0) : run 0 (row N f) = bsteps (8 * (N - i - 2)) (bsteps 8 (bsteps 8 (f i).toNat ^^^ (f (i + 1)).toNat)) := by
  obtain ⟨q, rfl⟩ : ∃ q, N = i + (2 + q) := ⟨N - i - 2, by omega⟩
  rw [row_split, row_split, row_two, run_append, row_zero i f (fun j hj => h0 j (by omega) (by omega) (by omega)), run_zeros, run_append]
  rw [row_zero q _ (fun j hj => h0 _ (by omega) (by omega) (by omega)), run_bsteps, run_cons, run_cons, run_nil, Nat.zero_xor, Nat.zero_add, Nat.add_comm 1 i]
  congr 2
  omega
theorem run_none (N : Nat) (f : Nat → UInt8) (h0 : ∀ j, j < N → f j = 0) : run 0 (row N f) = 0 := by
  rw [row_zero N f h0, run_zeros]

/-! What is turned, and the sum. -/
def xorRow (s : Bytes) (f : Nat → UInt8) : Bytes := List.zipWith (· ^^^ ·) s (row s.length f)
theorem sum_xor (s e : Bytes) (h : s.length = e.length) : sum (List.zipWith (· ^^^ ·) s e) = sum s ^^^ run 0 e := by
  unfold sum upd
  have := run_xor s e (0 ^^^ M32) 0 h
  rw [Nat.xor_zero] at this
  rw [this, Nat.xor_assoc, Nat.xor_assoc, Nat.xor_comm M32]
theorem ofNat_xor (x y : Nat) : UInt8.ofNat (x ^^^ y) = UInt8.ofNat x ^^^ UInt8.ofNat y := by
  apply UInt8.toNat_inj.1
  rw [UInt8.toNat_xor, UInt8.toNat_ofNat', UInt8.toNat_ofNat', UInt8.toNat_ofNat']
  apply Nat.eq_of_testBit_eq
  intro i
  simp only [Nat.testBit_mod_two_pow, Nat.testBit_xor]
  cases decide (i < 8) <;> simp
theorem div_xor (x y k : Nat) : (x ^^^ y) / 2 ^ k = x / 2 ^ k ^^^ y / 2 ^ k := by
  have := Nat.shiftRight_xor_distrib (a := x) (b := y) (i := k)
  simpa [Nat.shiftRight_eq_div_pow] using this
theorem le4_xor (x y : Nat) : le4 (x ^^^ y) = List.zipWith (· ^^^ ·) (le4 x) (le4 y) := by
  unfold le4
  have h1 := div_xor x y 8
  have h2 := div_xor x y 16
  have h3 := div_xor x y 24
  simp only [Nat.reducePow] at h1 h2 h3
  rw [h1, h2, h3, ofNat_xor, ofNat_xor, ofNat_xor, ofNat_xor]
  rfl
theorem zip_cancel (l : Bytes) : ∀ (x y : Bytes), x.length = l.length → y.length = l.length → List.zipWith (· ^^^ ·) l x = List.zipWith (· ^^^ ·) l y → x = y := by
  induction l with
  | nil =>
    intro x y hx hy _
    rw [List.eq_nil_of_length_eq_zero hx, List.eq_nil_of_length_eq_zero hy]
  | cons c l ih =>
    intro x y hx hy h
    match x, y, hx, hy with
    | u :: x, v :: y, hx, hy =>
      simp only [List.zipWith_cons_cons, List.cons.injEq] at h
      have huv : u = v := by
        have := congrArg (c ^^^ ·) h.1
        simpa [← UInt8.xor_assoc] using this
      rw [huv, ih x y (by simpa using hx) (by simpa using hy) h.2]
theorem oth_zip (s e : Bytes) (a : Nat) (h : s.length = e.length) : oth (List.zipWith (· ^^^ ·) s e) a = List.zipWith (· ^^^ ·) (oth s a) (oth e a) := by
  unfold oth
  rw [List.take_zipWith, List.drop_zipWith, List.zipWith_append (by simp [h])]
theorem sealed_xor (s e : Bytes) (a : Nat) (hl : s.length = e.length) (ha : a + 4 ≤ s.length) (hs : isSealed s (a : Int) = true) :
    isSealed (List.zipWith (· ^^^ ·) s e) (a : Int) = true → le4 (run 0 (oth e a)) = (e.drop a).take 4 := by
  unfold isSealed at hs ⊢
  rw [room_of ha, Bool.true_and, Int.toNat_natCast, decide_eq_true_eq] at hs
  have h2 : (List.zipWith (· ^^^ ·) s e).length = s.length := by simp [hl]
  rw [h2, room_of ha, Bool.true_and, Int.toNat_natCast, decide_eq_true_eq, oth_zip _ _ _ hl, sum_xor _ _ (by simp [oth, hl]), le4_xor, List.drop_zipWith, List.take_zipWith, hs]
  intro h
  exact zip_cancel _ _ _ (by rw [le4_length]; simp; omega) (by simp [hl]) h
theorem le4_inj {x y : Nat} (hx : x < 4294967296) (hy : y < 4294967296) (h : le4 x = le4 y) : x = y := by
  unfold le4 at h
  simp only [List.cons.injEq, and_true] at h
  obtain ⟨h0, h1, h2, h3⟩ := h
  have f : ∀ {u v : Nat}, UInt8.ofNat u = UInt8.ofNat v → u % 256 = v % 256 := by
    intro u v e
    have := congrArg UInt8.toNat e
    rwa [UInt8.toNat_ofNat', UInt8.toNat_ofNat'] at this
  have e0 := f h0
  have e1 := f h1
  have e2 := f h2
  have e3 := f h3
  omega

/-- Is v none of c, c stepped by a byte, ... -/
def chk : Nat → Nat → Nat → Bool
  | 0, _, _ => true
  | k + 1, c, v => (c != v) && chk k (bsteps 8 c) v
theorem chk_ne : ∀ (k c v q : Nat), chk k c v = true → q < k → bsteps (8 * q) c ≠ v
  | 0, _, _, _, _, hq => absurd hq (by omega)
  | k + 1, c, v, q, h, hq => by
    simp only [chk, Bool.and_eq_true, bne_iff_ne, ne_eq] at h
    cases q with
    | zero => exact h.1
    | succ q =>
      have := chk_ne k (bsteps 8 c) v q h.2 (by omega)
      rwa [← bsteps_add, show 8 + 8 * q = 8 * (q + 1) by omega] at this
set_option maxRecDepth 100000 in
theorem chk_lo : chk 602 (bsteps 8 128) 1 = true := by decide +kernel
set_option maxRecDepth 100000 in
theorem chk_hi : chk 602 (bsteps 8 1) 2147483648 = true := by decide +kernel

/-- One byte, in which any bits are turned. -/
theorem byte_turned (s : Bytes) (a i : Nat) (f : Nat → UInt8) (ha : a + 4 ≤ s.length) (hs : isSealed s (a : Int) = true) (hi : i < s.length) (hf : f i ≠ 0) (h0 : ∀ j, j < s.length → j ≠ i → f j = 0) : isSealed (xorRow s f) (a : Int) = false := by
  rw [Bool.eq_false_iff]
  intro h
  have h := sealed_xor s (row s.length f) a (row_length _ _).symm ha hs h
  rw [row_oth _ _ _ ha, row_four _ _ _ ha] at h
  have hne : (f i).toNat ≠ 0 := fun e => hf (UInt8.toNat_inj.1 e)
  have hlt : (f i).toNat < 4294967296 := by have := u8_lt (f i); omega
  by_cases h1 : i < a
  · rw [run_single (s.length - 4) i _ (by omega) (fun j hj hji => by
      by_cases hja : j < a
      · rw [if_pos hja]; exact h0 j (by omega) hji
      · rw [if_neg hja]; exact h0 _ (by omega) (by omega)), if_pos h1] at h
    rw [h0 a (by omega) (by omega), h0 (a + 1) (by omega) (by omega), h0 (a + 2) (by omega) (by omega), h0 (a + 3) (by omega) (by omega)] at h
    exact bsteps_ne (bsteps_lt hlt) (bsteps_ne hlt hne) (le4_inj (bsteps_lt (bsteps_lt hlt)) (by omega) (h.trans (show ([0, 0, 0, 0] : Bytes) = le4 0 from rfl)))
  · by_cases h2 : i < a + 4
    · rw [run_none _ _ (fun j hj => by
        by_cases hja : j < a
        · rw [if_pos hja]; exact h0 j (by omega) (by omega)
        · rw [if_neg hja]; exact h0 _ (by omega) (by omega))] at h
      have hz : le4 0 = [0, 0, 0, 0] := rfl
      rw [hz] at h
      simp only [List.cons.injEq, and_true] at h
      obtain ⟨e0, e1, e2, e3⟩ := h
      have : i = a ∨ i = a + 1 ∨ i = a + 2 ∨ i = a + 3 := by omega
      rcases this with rfl | rfl | rfl | rfl
      · exact hf e0.symm
      · exact hf e1.symm
      · exact hf e2.symm
      · exact hf e3.symm
    · rw [run_single (s.length - 4) (i - 4) _ (by omega) (fun j hj hji => by
        by_cases hja : j < a
        · rw [if_pos hja]; exact h0 j (by omega) (by omega)
        · rw [if_neg hja]; exact h0 _ (by omega) (by omega)), if_neg (by omega), show i - 4 + 4 = i by omega] at h
      rw [h0 a (by omega) (by omega), h0 (a + 1) (by omega) (by omega), h0 (a + 2) (by omega) (by omega), h0 (a + 3) (by omega) (by omega)] at h
      exact bsteps_ne (bsteps_lt hlt) (bsteps_ne hlt hne) (le4_inj (bsteps_lt (bsteps_lt hlt)) (by omega) (h.trans (show ([0, 0, 0, 0] : Bytes) = le4 0 from rfl)))

/-- The last bit of a byte, and the first of the next. -/
theorem pair_turned (s : Bytes) (a i : Nat) (f : Nat → UInt8) (ha : a + 4 ≤ s.length) (hn : s.length ≤ 600) (hs : isSealed s (a : Int) = true) (hi : i + 1 < s.length) (hf : f i = 128) (hf1 : f (i + 1) = 1) (h0 : ∀ j, j < s.length → j ≠ i → j ≠ i + 1 → f j = 0) : isSealed (xorRow s f) (a : Int) = false := by
  rw [Bool.eq_false_iff]
  intro h
  have h := sealed_xor s (row s.length f) a (row_length _ _).symm ha hs h
  rw [row_oth _ _ _ ha, row_four _ _ _ ha] at h
  have hz : ([0, 0, 0, 0] : Bytes) = le4 0 := rfl
  have hp : bsteps 8 (bsteps 8 (128 : UInt8).toNat ^^^ (1 : UInt8).toNat) ≠ 0 := by decide +kernel
  have hpl : bsteps 8 (bsteps 8 (128 : UInt8).toNat ^^^ (1 : UInt8).toNat) < 4294967296 := by decide +kernel
  by_cases h1 : i + 1 < a
  · rw [run_pair (s.length - 4) i _ (by omega) (fun j hj hji hji1 => by
      by_cases hja : j < a
      · rw [if_pos hja]; exact h0 j (by omega) hji hji1
      · rw [if_neg hja]; exact h0 _ (by omega) (by omega) (by omega)), if_pos (by omega), if_pos h1, hf, hf1] at h
    rw [h0 a (by omega) (by omega) (by omega), h0 (a + 1) (by omega) (by omega) (by omega), h0 (a + 2) (by omega) (by omega) (by omega), h0 (a + 3) (by omega) (by omega) (by omega)] at h
    exact bsteps_ne hpl hp (le4_inj (bsteps_lt hpl) (by omega) (h.trans hz))
  · by_cases h2 : i + 1 = a
    · rw [run_single (s.length - 4) i _ (by omega) (fun j hj hji => by
        by_cases hja : j < a
        · rw [if_pos hja]; exact h0 j (by omega) hji (by omega)
        · rw [if_neg hja]; exact h0 _ (by omega) (by omega) (by omega)), if_pos (by omega), hf] at h
      rw [show f a = 1 by rw [← h2]; exact hf1, h0 (a + 1) (by omega) (by omega) (by omega), h0 (a + 2) (by omega) (by omega) (by omega), h0 (a + 3) (by omega) (by omega) (by omega)] at h
      have h1' : ([1, 0, 0, 0] : Bytes) = le4 1 := rfl
      exact chk_ne 602 _ 1 (s.length - 4 - i - 1) chk_lo (by omega) (le4_inj (bsteps_lt (bsteps_lt (by decide))) (by omega) (h.trans h1'))
    · by_cases h3 : i + 1 < a + 4
      · rw [run_none _ _ (fun j hj => by
          by_cases hja : j < a
          · rw [if_pos hja]; exact h0 j (by omega) (by omega) (by omega)
          · rw [if_neg hja]; exact h0 _ (by omega) (by omega) (by omega))] at h
        have hz' : le4 0 = [0, 0, 0, 0] := rfl
        rw [hz'] at h
        simp only [List.cons.injEq, and_true] at h
        obtain ⟨e0, e1, e2, e3⟩ := h
        have : i = a ∨ i = a + 1 ∨ i = a + 2 := by omega
        rcases this with rfl | rfl | rfl
        · rw [hf] at e0; exact absurd e0 (by decide)
        · rw [hf] at e1; exact absurd e1 (by decide)
        · rw [hf] at e2; exact absurd e2 (by decide)
      · by_cases h4 : i = a + 3
        · subst h4
          rw [run_single (s.length - 4) a _ (by omega) (fun j hj hji => by
            by_cases hja : j < a
            · rw [if_pos hja]; exact h0 j (by omega) (by omega) (by omega)
            · rw [if_neg hja]; exact h0 _ (by omega) (by omega) (by omega)), if_neg (by omega), show f (a + 4) = 1 from hf1] at h
          rw [h0 a (by omega) (by omega) (by omega), h0 (a + 1) (by omega) (by omega) (by omega), h0 (a + 2) (by omega) (by omega) (by omega), hf] at h
          have h1' : ([0, 0, 0, 128] : Bytes) = le4 2147483648 := rfl
          exact chk_ne 602 _ 2147483648 (s.length - 4 - a - 1) chk_hi (by omega) (le4_inj (bsteps_lt (bsteps_lt (by decide))) (by omega) (h.trans h1'))
        · rw [run_pair (s.length - 4) (i - 4) _ (by omega) (fun j hj hji hji1 => by
            by_cases hja : j < a
            · rw [if_pos hja]; exact h0 j (by omega) (by omega) (by omega)
            · rw [if_neg hja]; exact h0 _ (by omega) (by omega) (by omega)), if_neg (by omega), if_neg (by omega), show i - 4 + 4 = i by omega, show i - 4 + 1 + 4 = i + 1 by omega, hf, hf1] at h
          rw [h0 a (by omega) (by omega) (by omega), h0 (a + 1) (by omega) (by omega) (by omega), h0 (a + 2) (by omega) (by omega) (by omega), h0 (a + 3) (by omega) (by omega) (by omega)] at h
          exact bsteps_ne hpl hp (le4_inj (bsteps_lt hpl) (by omega) (h.trans hz))
end Go.Proofs.Ytdgcplmekkancaa
