/-
  The sum as plain numbers: a step for a bit, steps for a byte, the sum of a row of bytes; what is linear in it.
-/
import Derived.Test.YtdgcplmekkancaaMem
set_option linter.unusedVariables false
namespace Go.Proofs.Ytdgcplmekkancaa

abbrev Bytes := List UInt8
def cb (l : Bytes) : List Value := l.map fun b => .int .u8 b.toNat
theorem cb_length (l : Bytes) : (cb l).length = l.length := by simp [cb]
theorem cb_one (l : Bytes) : ∀ v ∈ cb l, v.oneCell' = true := by
  intro v hv
  obtain ⟨b, _, rfl⟩ := List.mem_map.1 hv
  rfl

def bstep (c : Nat) : Nat := (c / 2) ^^^ (c % 2 * 2197175160)
def bsteps : Nat → Nat → Nat
  | 0, c => c
  | k + 1, c => bsteps k (bstep c)
def tab (n : Nat) : Nat := bsteps 4 n
def step4 (c : Nat) : Nat := (c / 16) ^^^ tab (c % 16)
def bytestep (c : Nat) (x : Nat) : Nat := step4 (step4 (c ^^^ x))
def M32 : Nat := 4294967295

theorem bsteps_succ (k c : Nat) : bsteps (k + 1) c = bstep (bsteps k c) := by
  induction k generalizing c with
  | zero => rfl
  | succ k ih => exact ih (bstep c)
theorem bsteps_add (k j c : Nat) : bsteps (k + j) c = bsteps j (bsteps k c) := by
  induction k generalizing c with
  | zero => rw [Nat.zero_add]; rfl
  | succ k ih => rw [Nat.add_right_comm]; exact ih (bstep c)

theorem xor_half (a b : Nat) : (a ^^^ b) / 2 = a / 2 ^^^ b / 2 := by
  have := Nat.shiftRight_xor_distrib (a := a) (b := b) (i := 1)
  simpa [Nat.shiftRight_eq_div_pow] using this
theorem xor_low (a b : Nat) : (a ^^^ b) % 2 = (a % 2 + b % 2) % 2 := by
  have h := Nat.testBit_xor a b 0
  simp only [Nat.testBit_zero] at h
  rcases Nat.mod_two_eq_zero_or_one a with ha | ha <;> rcases Nat.mod_two_eq_zero_or_one b with hb | hb <;> rcases Nat.mod_two_eq_zero_or_one (a ^^^ b) with hc | hc <;> simp [ha, hb, hc] at h ⊢
theorem low_mul (a b p : Nat) : (a ^^^ b) % 2 * p = (a % 2 * p) ^^^ (b % 2 * p) := by
  rw [xor_low]
  rcases Nat.mod_two_eq_zero_or_one a with ha | ha <;> rcases Nat.mod_two_eq_zero_or_one b with hb | hb <;> simp [ha, hb]
theorem xor_swap (a b c d : Nat) : (a ^^^ b) ^^^ (c ^^^ d) = (a ^^^ c) ^^^ (b ^^^ d) := by
  rw [Nat.xor_assoc, Nat.xor_assoc, ← Nat.xor_assoc b c d, Nat.xor_comm b c, Nat.xor_assoc]
theorem bstep_xor (a b : Nat) : bstep (a ^^^ b) = bstep a ^^^ bstep b := by
  unfold bstep
  rw [xor_half, low_mul, xor_swap]
theorem bsteps_xor (k a b : Nat) : bsteps k (a ^^^ b) = bsteps k a ^^^ bsteps k b := by
  induction k generalizing a b with
  | zero => rfl
  | succ k ih => show bsteps k (bstep _) = _; rw [bstep_xor]; exact ih _ _
theorem bstep_zero : bstep 0 = 0 := by decide
theorem bsteps_zero (k : Nat) : bsteps k 0 = 0 := by
  induction k with
  | zero => rfl
  | succ k ih => exact ih
theorem bstep_two (y : Nat) : bstep (2 * y) = y := by
  unfold bstep
  rw [Nat.mul_div_cancel_left _ (by omega), Nat.mul_mod_right, Nat.zero_mul, Nat.xor_zero]
theorem bsteps_pow (k y : Nat) : bsteps k (2 ^ k * y) = y := by
  induction k generalizing y with
  | zero => show 2 ^ 0 * y = y; omega
  | succ k ih =>
    show bsteps k (bstep _) = _
    rw [Nat.pow_succ, Nat.mul_comm (2 ^ k) 2, Nat.mul_assoc, bstep_two]
    exact ih y
theorem xor_parts (c : Nat) : c = (16 * (c / 16)) ^^^ (c % 16) := by
  have h1 := (Nat.two_pow_add_eq_or_of_lt (i := 4) (b := c % 16) (by omega) (c / 16))
  have h2 : (2 ^ 4 * (c / 16)) &&& (c % 16) = 0 := by
    apply Nat.eq_of_testBit_eq
    intro i
    rw [Nat.testBit_and, Nat.zero_testBit, Nat.testBit_two_pow_mul]
    by_cases h : 4 ≤ i
    · have : (c % 16).testBit i = false := by
        apply Nat.testBit_lt_two_pow
        calc c % 16 < 2 ^ 4 := by omega
          _ ≤ 2 ^ i := Nat.pow_le_pow_right (by omega) h
      simp [this]
    · simp [h]
  apply Nat.eq_of_testBit_eq
  intro i
  have h3 := congrArg (Nat.testBit · i) h1
  have h4 := congrArg (Nat.testBit · i) h2
  simp only [Nat.testBit_or, Nat.testBit_and, Nat.zero_testBit] at h3 h4
  rw [Nat.testBit_xor]
  have e : (16 * (c / 16)).testBit i = (2 ^ 4 * (c / 16)).testBit i := rfl
  rw [e]
  have hc : c = 2 ^ 4 * (c / 16) + c % 16 := by omega
  rw [← hc] at h3
  have key : ∀ t u v : Bool, t = (u || v) → (u && v) = false → t = (u ^^ v) := by decide
  exact key _ _ _ h3 h4
theorem step4_eq (c : Nat) : step4 c = bsteps 4 c := by
  conv => rhs; rw [xor_parts c, bsteps_xor]
  rw [show 16 * (c / 16) = 2 ^ 4 * (c / 16) from rfl, bsteps_pow]
  rfl
theorem bytestep_eq (c x : Nat) : bytestep c x = bsteps 8 (c ^^^ x) := by
  unfold bytestep
  rw [step4_eq, step4_eq, ← bsteps_add]

theorem bstep_lt {c : Nat} (h : c < 4294967296) : bstep c < 4294967296 := by
  have h1 : c / 2 < 2 ^ 32 := by omega
  have h2 : c % 2 * 2197175160 < 2 ^ 32 := by omega
  exact Nat.xor_lt_two_pow h1 h2
theorem bsteps_lt {k c : Nat} (h : c < 4294967296) : bsteps k c < 4294967296 := by
  induction k generalizing c with
  | zero => exact h
  | succ k ih => exact ih (bstep_lt h)
theorem xor_lt {a b : Nat} (ha : a < 4294967296) (hb : b < 4294967296) : a ^^^ b < 4294967296 :=
  Nat.xor_lt_two_pow (n := 32) ha hb
theorem bstep_ne {c : Nat} (h : c < 4294967296) (h0 : c ≠ 0) : bstep c ≠ 0 := by
  intro e
  unfold bstep at e
  rcases Nat.mod_two_eq_zero_or_one c with hc | hc
  · rw [hc, Nat.zero_mul, Nat.xor_zero] at e; omega
  · rw [hc, Nat.one_mul] at e
    have h1 : (c / 2).testBit 31 = false := Nat.testBit_lt_two_pow (by omega)
    have h2 := congrArg (Nat.testBit · 31) e
    simp only [Nat.testBit_xor, h1, Nat.zero_testBit] at h2
    exact absurd h2 (by decide)
theorem bsteps_ne {k c : Nat} (h : c < 4294967296) (h0 : c ≠ 0) : bsteps k c ≠ 0 := by
  induction k generalizing c with
  | zero => exact h0
  | succ k ih => exact ih (bstep_lt h) (bstep_ne h h0)

/-- What a row of bytes makes of c. -/
def run (c : Nat) (l : Bytes) : Nat := l.foldl (fun c x => bsteps 8 (c ^^^ x.toNat)) c
def upd (s : Nat) (l : Bytes) : Nat := run (s ^^^ M32) l ^^^ M32
def sum (l : Bytes) : Nat := upd 0 l

theorem run_nil (c : Nat) : run c [] = c := rfl
theorem run_cons (c : Nat) (x : UInt8) (l : Bytes) : run c (x :: l) = run (bsteps 8 (c ^^^ x.toNat)) l := rfl
theorem run_append (c : Nat) (a b : Bytes) : run c (a ++ b) = run (run c a) b := List.foldl_append
theorem u8_lt (x : UInt8) : x.toNat < 256 := x.toNat_lt
theorem run_lt {c : Nat} (h : c < 4294967296) (l : Bytes) : run c l < 4294967296 := by
  induction l generalizing c with
  | nil => exact h
  | cons x l ih => exact ih (bsteps_lt (xor_lt h (by have := u8_lt x; omega)))
theorem M32_lt : M32 < 4294967296 := by decide
theorem upd_lt {s : Nat} (h : s < 4294967296) (l : Bytes) : upd s l < 4294967296 := xor_lt (run_lt (xor_lt h M32_lt) l) M32_lt
theorem sum_lt (l : Bytes) : sum l < 4294967296 := upd_lt (by omega) l
theorem xor_twice (a b : Nat) : (a ^^^ b) ^^^ b = a := by rw [Nat.xor_assoc, Nat.xor_self, Nat.xor_zero]
theorem upd_append (s : Nat) (a b : Bytes) : upd s (a ++ b) = upd (upd s a) b := by
  unfold upd
  rw [run_append, xor_twice]
theorem upd_nil (s : Nat) : upd s [] = s := xor_twice s M32

theorem run_xor : ∀ (a b : Bytes) (c d : Nat), a.length = b.length → run (c ^^^ d) (List.zipWith (· ^^^ ·) a b) = run c a ^^^ run d b
  | [], [], _, _, _ => rfl
  | [], _ :: _, _, _, h => by simp at h
  | _ :: _, [], _, _, h => by simp at h
  | x :: a, y :: b, c, d, h => by
    rw [List.zipWith_cons_cons, run_cons, run_cons, run_cons, UInt8.toNat_xor, xor_swap, bsteps_xor]
    exact run_xor a b _ _ (by simpa using h)
theorem run_zeros (k : Nat) : run 0 (List.replicate k 0) = 0 := by
  induction k with
  | zero => rfl
  | succ k ih => rw [List.replicate_succ, run_cons]; exact ih
theorem run_bsteps (k c : Nat) : run c (List.replicate k 0) = bsteps (8 * k) c := by
  induction k generalizing c with
  | zero => rfl
  | succ k ih =>
    rw [List.replicate_succ, run_cons, ih, Nat.mul_add, Nat.mul_one, Nat.add_comm, bsteps_add]
    simp
end Go.Proofs.Ytdgcplmekkancaa
