/-
  Several texts, as one.
-/
import Derived.Test.YtbgnfocfnjlabaaDoorBak
import Derived.Test.YtbgnfocfnjlabaaDoorGi
import Derived.Shelf.Bytes.SlJoin
/-
  One byte of sealed bytes turned: plain lists.
-/
set_option linter.unusedVariables false
namespace Go.Proofs.YtbgnfocfnjlabaaDoor

def trow (n : Nat) (f : Nat → UInt8) : Bytes := (List.range n).map f
theorem trow_get (n : Nat) (f : Nat → UInt8) (j : Nat) : (trow n f)[j]? = if j < n then some (f j) else none := by
  unfold trow
  rw [List.getElem?_map]
  by_cases h : j < n
  · rw [List.getElem?_range h, if_pos h]; rfl
  · rw [if_neg h, List.getElem?_eq_none (by simpa using h)]; rfl
theorem trow_length (n : Nat) (f : Nat → UInt8) : (trow n f).length = n := by simp [trow]
theorem trow_oth (n : Nat) (f : Nat → UInt8) (a : Nat) (h : a + 4 ≤ n) : oth (trow n f) a = trow (n - 4) fun j => if j < a then f j else f (j + 4) := by
  apply List.ext_getElem?
  intro j
  unfold oth
  rw [trow_get, List.getElem?_append, List.length_take, trow_length, List.getElem?_take, List.getElem?_drop, trow_get, trow_get, Nat.min_eq_left (by omega)]
  by_cases h1 : j < a
  · rw [if_pos h1, if_pos h1, if_pos (by omega), if_pos (by omega), if_pos h1]
  · rw [if_neg h1, if_neg h1]
    by_cases h2 : j < n - 4
    · rw [if_pos (by omega), if_pos h2]
      congr 2
      omega
    · rw [if_neg (by omega), if_neg h2]
theorem trow_four (n : Nat) (f : Nat → UInt8) (a : Nat) (h : a + 4 ≤ n) : ((trow n f).drop a).take 4 = [f a, f (a + 1), f (a + 2), f (a + 3)] := by
  apply List.ext_getElem?
  intro j
  rw [List.getElem?_take, List.getElem?_drop, trow_get]
  by_cases h4 : j < 4
  · rw [if_pos h4, if_pos (by omega)]
    have : j = 0 ∨ j = 1 ∨ j = 2 ∨ j = 3 := by omega
    rcases this with rfl | rfl | rfl | rfl <;> rfl
  · rw [if_neg h4, List.getElem?_eq_none (by simp; omega)]
theorem trow_split (p q : Nat) (f : Nat → UInt8) : trow (p + q) f = trow p f ++ trow q fun j => f (j + p) := by
  apply List.ext_getElem?
  intro j
  rw [List.getElem?_append, trow_length, trow_get, trow_get, trow_get]
  by_cases h : j < p
  · rw [if_pos h, if_pos h, if_pos (by omega)]
  · rw [if_neg h]
    by_cases h2 : j - p < q
    · rw [if_pos h2, if_pos (by omega)]
      congr 2
      omega
    · rw [if_neg h2, if_neg (by omega)]
theorem trow_zero (n : Nat) (f : Nat → UInt8) (h : ∀ j, j < n → f j = 0) : trow n f = List.replicate n 0 := by
  apply List.ext_getElem?
  intro j
  rw [trow_get, List.getElem?_replicate]
  by_cases h1 : j < n
  · rw [if_pos h1, if_pos h1, h j h1]
  · rw [if_neg h1, if_neg h1]
theorem trow_one (f : Nat → UInt8) : trow 1 f = [f 0] := rfl

/-- A single byte that is not nought. -/
theorem run_single (N i : Nat) (f : Nat → UInt8) (hi : i < N) (h0 : ∀ j, j < N → j ≠ i → f j = 0) : run 0 (trow N f) = bsteps (8 * (N - i - 1)) (bsteps 8 (f i).toNat) := by
  obtain ⟨q, rfl⟩ : ∃ q, N = i + (1 + q) := ⟨N - i - 1, by omega⟩
  rw [trow_split, trow_split, trow_one, run_append, trow_zero i f (fun j hj => h0 j (by omega) (by omega)), run_zeros, run_append]
  rw [trow_zero q _ (fun j hj => h0 _ (by omega) (by omega)), run_bsteps, run_cons, run_nil, Nat.zero_xor, Nat.zero_add]
  congr 2
  omega
theorem run_none (N : Nat) (f : Nat → UInt8) (h0 : ∀ j, j < N → f j = 0) : run 0 (trow N f) = 0 := by
  rw [trow_zero N f h0, run_zeros]

/-! What is turned, and the sum. -/
def xorRow (s : Bytes) (f : Nat → UInt8) : Bytes := List.zipWith (· ^^^ ·) s (trow s.length f)
theorem sum_xor (s e : Bytes) (h : s.length = e.length) : sum (List.zipWith (· ^^^ ·) s e) = sum s ^^^ run 0 e := by
  unfold sum upd
  have := run_xor s e (0 ^^^ M32) 0 h
  rw [Nat.xor_zero] at this
  rw [this, Nat.xor_assoc, Nat.xor_assoc, Nat.xor_comm M32]
theorem ofNat_xor (x y : Nat) : UInt8.ofNat (x ^^^ y) = UInt8.ofNat x ^^^ UInt8.ofNat y := by
  apply UInt8.toNat_inj.1
  rw [UInt8.toNat_xor, UInt8.toNat_ofNat', UInt8.toNat_ofNat', UInt8.toNat_ofNat']
  apply Nat.eq_of_testBit_eq
  intro i
  simp only [Nat.testBit_mod_two_pow, Nat.testBit_xor]
  cases decide (i < 8) <;> simp
theorem div_xor (x y k : Nat) : (x ^^^ y) / 2 ^ k = x / 2 ^ k ^^^ y / 2 ^ k := by
  have := Nat.shiftRight_xor_distrib (a := x) (b := y) (i := k)
  simpa [Nat.shiftRight_eq_div_pow] using this
theorem le4_xor (x y : Nat) : le4 (x ^^^ y) = List.zipWith (· ^^^ ·) (le4 x) (le4 y) := by
  unfold le4
  have h1 := div_xor x y 8
  have h2 := div_xor x y 16
  have h3 := div_xor x y 24
  simp only [Nat.reducePow] at h1 h2 h3
  rw [h1, h2, h3, ofNat_xor, ofNat_xor, ofNat_xor, ofNat_xor]
  rfl
theorem zip_cancel (l : Bytes) : ∀ (x y : Bytes), x.length = l.length → y.length = l.length → List.zipWith (· ^^^ ·) l x = List.zipWith (· ^^^ ·) l y → x = y := by
  induction l with
  | nil =>
    intro x y hx hy _
    rw [List.eq_nil_of_length_eq_zero hx, List.eq_nil_of_length_eq_zero hy]
  | cons c l ih =>
    intro x y hx hy h
    match x, y, hx, hy with
    | u :: x, v :: y, hx, hy =>
      simp only [List.zipWith_cons_cons, List.cons.injEq] at h
      have huv : u = v := by
        have := congrArg (c ^^^ ·) h.1
        simpa [← UInt8.xor_assoc] using this
      rw [huv, ih x y (by simpa using hx) (by simpa using hy) h.2]
theorem oth_zip (s e : Bytes) (a : Nat) (h : s.length = e.length) : oth (List.zipWith (· ^^^ ·) s e) a = List.zipWith (· ^^^ ·) (oth s a) (oth e a) := by
  unfold oth
  rw [List.take_zipWith, List.drop_zipWith, List.zipWith_append (by simp [h])]
theorem sealed_xor (s e : Bytes) (a : Nat) (hl : s.length = e.length) (ha : a + 4 ≤ s.length) (hs : isSealed s (a : Int) = true) :
    isSealed (List.zipWith (· ^^^ ·) s e) (a : Int) = true → le4 (run 0 (oth e a)) = (e.drop a).take 4 := by
  unfold isSealed at hs ⊢
  rw [show (rm4 s.length (a : Int) = true) by simp only [rm4, decide_eq_true_eq]; omega, Bool.true_and, Int.toNat_natCast, decide_eq_true_eq] at hs
  have h2 : (List.zipWith (· ^^^ ·) s e).length = s.length := by simp [hl]
  rw [h2, show (rm4 s.length (a : Int) = true) by simp only [rm4, decide_eq_true_eq]; omega, Bool.true_and, Int.toNat_natCast, decide_eq_true_eq, oth_zip _ _ _ hl, sum_xor _ _ (by simp [oth, hl]), le4_xor, List.drop_zipWith, List.take_zipWith, hs]
  intro h
  exact zip_cancel _ _ _ (by rw [le4_length]; simp; omega) (by simp [hl]) h
theorem le4_inj {x y : Nat} (hx : x < 4294967296) (hy : y < 4294967296) (h : le4 x = le4 y) : x = y := by
  unfold le4 at h
  simp only [List.cons.injEq, and_true] at h
  obtain ⟨h0, h1, h2, h3⟩ := h
  have f : ∀ {u v : Nat}, UInt8.ofNat u = UInt8.ofNat v → u % 256 = v % 256 := by
    intro u v e
    have := congrArg UInt8.toNat e
    rwa [UInt8.toNat_ofNat', UInt8.toNat_ofNat'] at this
  have e0 := f h0
  have e1 := f h1
  have e2 := f h2
  have e3 := f h3
  omega

/-- One byte, in which any bits are turned. -/
theorem byte_turned (s : Bytes) (a i : Nat) (f : Nat → UInt8) (ha : a + 4 ≤ s.length) (hs : isSealed s (a : Int) = true) (hi : i < s.length) (hf : f i ≠ 0) (h0 : ∀ j, j < s.length → j ≠ i → f j = 0) : isSealed (xorRow s f) (a : Int) = false := by
  rw [Bool.eq_false_iff]
  intro h
  have h := sealed_xor s (trow s.length f) a (trow_length _ _).symm ha hs h
  rw [trow_oth _ _ _ ha, trow_four _ _ _ ha] at h
  have hne : (f i).toNat ≠ 0 := fun e => hf (UInt8.toNat_inj.1 e)
  have hlt : (f i).toNat < 4294967296 := by have := u8_lt (f i); omega
  by_cases h1 : i < a
  · rw [run_single (s.length - 4) i _ (by omega) (fun j hj hji => by
      by_cases hja : j < a
      · rw [if_pos hja]; exact h0 j (by omega) hji
      · rw [if_neg hja]; exact h0 _ (by omega) (by omega)), if_pos h1] at h
    rw [h0 a (by omega) (by omega), h0 (a + 1) (by omega) (by omega), h0 (a + 2) (by omega) (by omega), h0 (a + 3) (by omega) (by omega)] at h
    exact bsteps_ne (bsteps_lt hlt) (bsteps_ne hlt hne) (le4_inj (bsteps_lt (bsteps_lt hlt)) (by omega) (h.trans (show ([0, 0, 0, 0] : Bytes) = le4 0 from rfl)))
  · by_cases h2 : i < a + 4
    · rw [run_none _ _ (fun j hj => by
        by_cases hja : j < a
        · rw [if_pos hja]; exact h0 j (by omega) (by omega)
        · rw [if_neg hja]; exact h0 _ (by omega) (by omega))] at h
      have hz : le4 0 = [0, 0, 0, 0] := rfl
      rw [hz] at h
      simp only [List.cons.injEq, and_true] at h
      obtain ⟨e0, e1, e2, e3⟩ := h
      have : i = a ∨ i = a + 1 ∨ i = a + 2 ∨ i = a + 3 := by omega
      rcases this with rfl | rfl | rfl | rfl
      · exact hf e0.symm
      · exact hf e1.symm
      · exact hf e2.symm
      · exact hf e3.symm
    · rw [run_single (s.length - 4) (i - 4) _ (by omega) (fun j hj hji => by
        by_cases hja : j < a
        · rw [if_pos hja]; exact h0 j (by omega) (by omega)
        · rw [if_neg hja]; exact h0 _ (by omega) (by omega)), if_neg (by omega), show i - 4 + 4 = i by omega] at h
      rw [h0 a (by omega) (by omega), h0 (a + 1) (by omega) (by omega), h0 (a + 2) (by omega) (by omega), h0 (a + 3) (by omega) (by omega)] at h
      exact bsteps_ne (bsteps_lt hlt) (bsteps_ne hlt hne) (le4_inj (bsteps_lt (bsteps_lt hlt)) (by omega) (h.trans (show ([0, 0, 0, 0] : Bytes) = le4 0 from rfl)))

end Go.Proofs.YtbgnfocfnjlabaaDoor

/-
  Pages of values: read back as they were; plain.
-/
set_option linter.unusedVariables false
namespace Go.Proofs.YtbgnfocfnjlabaaDoor
open Go.RowKit

theorem nextOf_get {l : List Int} {k : Nat} (h : k + 1 < l.length) : l[k + 1]? = some (nextOf l k) := by
  unfold nextOf
  rw [List.getD_eq_getElem?_getD, List.getElem?_append_left (by rw [List.length_drop]; omega), List.getElem?_drop, Nat.add_comm 1 k]
  rw [List.getElem?_eq_getElem h]
  rfl
theorem nextOf_b {l : List Int} (h : ∀ x ∈ l, 2 ≤ x ∧ x < 16384) (k : Nat) : 0 ≤ nextOf l k ∧ nextOf l k < 16384 := by
  by_cases hk : k + 1 < l.length
  · have := h _ (List.mem_of_getElem? (nextOf_get hk)); omega
  · have e : nextOf l k = 0 := by
      unfold nextOf
      rw [List.getD_eq_getElem?_getD, List.getElem?_append_right (by rw [List.length_drop]; omega), List.length_drop]
      cases k - (l.length - 1) with
      | zero => rfl
      | succ i => rfl
    omega
theorem chunkB_len (v : Bytes) (m k : Nat) : (chunkB v m k).length = chk v.length m k := by
  unfold chunkB chk
  rw [List.length_take, List.length_drop]
/-- A page of a chain. -/
theorem link_shape {g m : Nat} (hg : g = 1 ∨ g = 2) (hm : (m : Int) = tr (g : Int) 248 240 240) {v : Bytes} {l : List Int} {k j : Nat} (hl : ∀ x ∈ l, 2 ≤ x ∧ x < 16384) :
    Shape (linkB g v m l k j) 79 g (chk v.length m j) (nextOf l k).toNat (padB m (chunkB v m j)) ∧ (g ≠ 1 → isSealed (linkB g v m l k j) 4 = true) := by
  obtain ⟨h0, h1⟩ := nextOf_b hl k
  have hm2 : m ≤ 248 ∧ (tr (g : Int) 248 240 240).toNat = m := by rcases hg with rfl | rfl <;> simp only [tr] at hm ⊢ <;> simp at hm ⊢ <;> omega
  have hc : chk v.length m j ≤ m := Nat.min_le_left _ _
  have hk : (kindOk ((79 : Nat) : Int) && gen (g : Int)) = true := by rcases hg with rfl | rfl <;> kernel_rfl
  have hk2 := hk
  simp only [Bool.and_eq_true] at hk2
  have e := (wrap_good (k := 79) (g := g) (n := chk v.length m j) (x := (nextOf l k).toNat) (body := chunkB v m j) hk (by unfold rwBad; rw [chunkB_len, ← hm]; omega) (by omega)).2
  have s := wrapP_shape (k := 79) (g := g) (n := chk v.length m j) (x := (nextOf l k).toNat) (body := chunkB v m j) hk2.1 hk2.2 (by omega) (by omega) (by rcases hg with rfl | rfl <;> simp [tr] <;> omega) (by rw [chunkB_len, hm2.2]; exact hc)
  have e2 : linkB g v m l k j = wrapP 79 g (chk v.length m j) (nextOf l k).toNat (chunkB v m j) := by
    unfold linkB
    rw [← e, Int.toNat_of_nonneg h0]
    rfl
  rw [e2, ← hm2.2]
  rw [hm2.2] at s ⊢
  exact s
theorem padB_full {m : Nat} {p : Bytes} (h : p.length = m) : padB m p = p := by
  unfold padB
  rw [h, Nat.sub_self]
  simp
/-- Chunks behind one another, as far as they are full. -/
theorem chunks_full (v : Bytes) (m : Nat) : ∀ k, k * m ≤ v.length → (List.range k).flatMap (fun j => padB m (chunkB v m j)) = v.take (k * m)
  | 0, _ => by simp
  | k + 1, h => by
    have h1 : (k + 1) * m = k * m + m := Nat.succ_mul k m
    rw [List.range_succ, List.flatMap_append, chunks_full v m k (by omega)]
    have e : (chunkB v m k).length = m := by rw [chunkB_len]; unfold chk; omega
    simp only [List.flatMap_cons, List.flatMap_nil, List.append_nil]
    rw [padB_full e, h1, List.take_add]
    rfl
theorem chunks_all {v : Bytes} {m q : Nat} (hm : 1 ≤ m) (hq : q = (v.length + m - 1) / m) : v.length ≤ ((List.range q).flatMap (fun j => padB m (chunkB v m j))).length ∧ ((List.range q).flatMap (fun j => padB m (chunkB v m j))).take v.length = v := by
  have hd := Nat.div_add_mod (v.length + m - 1) m
  have hlt := Nat.mod_lt (v.length + m - 1) (show 0 < m by omega)
  rw [← hq] at hd
  have hc : m * q = q * m := Nat.mul_comm m q
  cases q with
  | zero =>
    have : v.length = 0 := by omega
    rw [List.eq_nil_of_length_eq_zero this]
    simp
  | succ k =>
    have h1 : (k + 1) * m = k * m + m := Nat.succ_mul k m
    have hk : k * m ≤ v.length := by omega
    rw [List.range_succ, List.flatMap_append, chunks_full v m k hk]
    simp only [List.flatMap_cons, List.flatMap_nil, List.append_nil]
    have e : chunkB v m k = v.drop (k * m) := by
      unfold chunkB
      exact List.take_of_length_le (by rw [List.length_drop]; omega)
    have e2 : v.take (k * m) ++ padB m (chunkB v m k) = v ++ List.replicate (m - (chunkB v m k).length) 0 := by
      unfold padB
      rw [e, ← List.append_assoc, List.take_append_drop]
    rw [e2]
    exact ⟨by simp, List.take_left' rfl⟩
section
variable {ans : Int → Int → Int × Bytes} {g m : Nat} {v : Bytes} {l : List Int}
/-- What stands behind a page of a chain. -/
theorem behP_link (hg : g = 1 ∨ g = 2) (hm : (m : Int) = tr (g : Int) 248 240 240) (hl : ∀ x ∈ l, 2 ≤ x ∧ x < 16384) {k j : Nat} {x : Int} {X : Bytes} (hx : l[k + 1]? = some x) (ha : askP ans x 1 = (0, X)) : behP ans (linkB g v m l k j) = (x, X, true) := by
  obtain ⟨_, _, _, hE, _, hX, _⟩ := (link_shape hg hm hl (v := v) (k := k) (j := j)).1.facts
  have hk : k + 1 < l.length := by
    rcases Nat.lt_or_ge (k + 1) l.length with h | h
    · exact h
    · rw [List.getElem?_eq_none h] at hx; cases hx
  have hxe : x = nextOf l k := by rw [nextOf_get hk] at hx; exact (Option.some.inj hx).symm
  have hb := nextOf_b hl k
  have hb2 := hl x (List.mem_of_getElem? hx)
  have e : ((hdX (linkB g v m l k j) : Nat) : Int) = x := by rw [hX, hxe]; omega
  unfold behP
  rw [e, ha, if_pos ⟨hE, by unfold isId; simpa using hb2⟩]
  rfl
/-- Pages of a chain as far as they are told: one behind the other. -/
theorem folP_get (hg : g = 1 ∨ g = 2) (hm : (m : Int) = tr (g : Int) 248 240 240) (hl : ∀ x ∈ l, 2 ≤ x ∧ x < 16384) (P : Nat → Bytes) (ha : ∀ k x, l[k]? = some x → askP ans x 1 = (0, P k)) {p : Nat} (hp : p < l.length) (hP : ∀ k, k < p → P k = linkB g v m l k k) :
    ∀ d k K lst, p = k + d → d ≤ K → folP ans K (P k) = some lst → (P k :: lst.map (·.2))[d]? = some (P p)
  | 0, k, K, lst, h, _, _ => by rw [show p = k by omega]; rfl
  | d + 1, k, K, lst, h, hK, hf => by
    obtain ⟨K', rfl⟩ : ∃ K', K = K' + 1 := ⟨K - 1, by omega⟩
    have hx : l[k + 1]? = some (nextOf l k) := nextOf_get (by omega)
    have hb := behP_link (v := v) (j := k) hg hm hl hx (ha _ _ hx)
    unfold folP at hf
    rw [hP k (by omega), hb] at hf
    simp only [if_true] at hf
    obtain ⟨lst', hf', rfl⟩ := Option.map_eq_some_iff.1 hf
    have := folP_get hg hm hl P ha hp hP d (k + 1) K' lst' (by omega) (by omega) hf'
    simpa using this
/-- A chain whose pages are all there is followed to its end. -/
theorem folP_all (hg : g = 1 ∨ g = 2) (hm : (m : Int) = tr (g : Int) 248 240 240) (hl : ∀ x ∈ l, 2 ≤ x ∧ x < 16384) (ha : ∀ k x, l[k]? = some x → askP ans x 1 = (0, linkB g v m l k k)) :
    ∀ K k, k + K + 1 = l.length → ∃ lst, folP ans K (linkB g v m l k k) = some lst ∧ lst.map (·.1) = l.drop (k + 1) ∧ lst.map (·.2) = (List.range' (k + 1) K).map fun j => linkB g v m l j j
  | 0, k, h => ⟨[], rfl, by rw [List.drop_eq_nil_of_le (by omega)]; rfl, rfl⟩
  | K + 1, k, h => by
    have hx : l[k + 1]? = some (nextOf l k) := nextOf_get (by omega)
    have hb := behP_link (v := v) (j := k) hg hm hl hx (ha _ _ hx)
    obtain ⟨lst, h1, h2, h3⟩ := folP_all hg hm hl ha K (k + 1) (by omega)
    refine ⟨(nextOf l k, linkB g v m l (k + 1) (k + 1)) :: lst, ?_, ?_, ?_⟩
    · unfold folP
      rw [hb]
      simp only [if_true]
      rw [h1]
      rfl
    · have hk : k + 1 < l.length := by omega
      rw [List.map_cons, h2, List.drop_eq_getElem_cons hk]
      rw [List.getElem?_eq_getElem hk] at hx
      rw [Option.some.inj hx]
    · rw [List.map_cons, h3, List.range'_succ, List.map_cons]
theorem linksB_range (g : Int) (v : Bytes) (m : Nat) (l : List Int) (q : Nat) : linksB g v m l (List.range q) = (List.range q).map fun k => linkB g v m l k k := by
  apply List.ext_getElem?
  intro i
  unfold linksB
  rw [List.getElem?_mapIdx, List.getElem?_map]
  rcases Nat.lt_or_ge i q with h | h
  · rw [List.getElem?_range h]; rfl
  · rw [List.getElem?_eq_none (by simpa using h)]; rfl
/-- A chain is read back as it was. -/
theorem chain_back (hg : g = 1 ∨ g = 2) (hm : (m : Int) = tr (g : Int) 248 240 240) {id : Int} (h : encOk g v.length (id :: l) = true) (ha : ∀ k x, (id :: l)[k]? = some x → askP ans x 1 = (0, linkB g v m (id :: l) k k)) :
    chR g m v.length id (linkB g v m (id :: l) 0 0) (folP ans l.length (linkB g v m (id :: l) 0 0)) = (v, id :: l, true) := by
  have h' := h
  unfold encOk at h
  simp only [Bool.and_eq_true, decide_eq_true_eq] at h
  obtain ⟨⟨hz, hlen⟩, hmay⟩ := h
  have hl := mayP_bound hmay
  obtain ⟨_, _, hmq, _⟩ := manyP_chain (g := (g : Int)) (by rcases hg with rfl | rfl <;> simp) hm hz
  have hq : l.length + 1 = (v.length + m - 1) / m := by rw [hmq] at hlen; simp only [List.length_cons] at hlen; omega
  obtain ⟨lst, h1, h2, h3⟩ := folP_all (v := v) hg hm hl ha l.length 0 (by simp)
  have hll : lst.length = l.length := by have := congrArg List.length h2; simpa using this
  have hps : linkB g v m (id :: l) 0 0 :: lst.map (·.2) = (List.range (l.length + 1)).map fun k => linkB g v m (id :: l) k k := by
    rw [h3, List.range_eq_range', List.range'_succ, List.map_cons, Nat.zero_add]
  have hid : id :: lst.map (·.1) = id :: l := by rw [h2]; rfl
  have hbod : bodies ((List.range (l.length + 1)).map fun k => linkB g v m (id :: l) k k) = (List.range (l.length + 1)).flatMap (fun j => padB m (chunkB v m j)) := by
    unfold bodies
    rw [List.flatMap_map]
    congr 1
    funext k
    exact (link_shape hg hm hl (v := v) (k := k) (j := k)).1.facts.2.2.2.2.2.2
  obtain ⟨c1, c2⟩ := chunks_all (v := v) (m := m) (q := l.length + 1) (by rcases hg with rfl | rfl <;> simp [tr] at hm <;> omega) hq
  rw [h1]
  unfold chR
  simp only
  rw [hps, hid, hbod, if_neg (by omega), c2, h', hll, linksB_range]
  simp
/-- A chain with a page that is not sealed is none. -/
theorem chain_torn {m : Nat} (hm : m = 240) (hl : ∀ x ∈ l, 2 ≤ x ∧ x < 16384) (P : Nat → Bytes) (ha : ∀ k x, l[k]? = some x → askP ans x 1 = (0, P k)) {p K : Nat} (hp : p < l.length) (hK : p ≤ K) (hP : ∀ k, k < p → P k = linkB 2 v m l k k) (hs : isSealed (P p) 4 = false) (N : Nat) (id : Int) :
    (chR 2 m N id (P 0) (folP ans K (P 0))).2.2 = false := by
  have hm' : (m : Int) = tr ((2 : Nat) : Int) 248 240 240 := by rw [hm]; rfl
  cases hf : folP ans K (P 0) with
  | none => rfl
  | some lst =>
    have hg := folP_get (g := 2) (v := v) (Or.inr rfl) hm' hl P ha hp hP p 0 K lst (by omega) hK hf
    rw [Bool.eq_false_iff]
    intro h
    unfold chR at h
    simp only at h
    split at h
    · cases h
    · simp only [Bool.and_eq_true, decide_eq_true_eq] at h
      obtain ⟨h1, h2⟩ := h
      unfold encOk at h1
      simp only [Bool.and_eq_true, decide_eq_true_eq] at h1
      rw [← h2, linksB_range, List.getElem?_map] at hg
      obtain ⟨k, hk, e⟩ := Option.map_eq_some_iff.1 hg
      have := (link_shape (g := 2) (v := (bodies (P 0 :: lst.map (·.2))).take N) (k := k) (j := k) (Or.inr rfl) hm' (mayP_bound h1.2)).2 (by omega)
      rw [← e] at hs
      rw [show (((2 : Nat) : Int)) = 2 from rfl] at this
      rw [this] at hs
      cases hs
end
end Go.Proofs.YtbgnfocfnjlabaaDoor

/-
  Extents: read back as they were; images; plain.
-/
set_option linter.unusedVariables false
namespace Go.Proofs.YtbgnfocfnjlabaaDoor
open Go.RowKit

/-- The head of an extent ahead of its sum; what stands behind it. -/
def extH (M : Nat) : Bytes := UInt8.ofNat 79 :: UInt8.ofNat 3 :: le M 2
def extY (v : Bytes) (M : Nat) : Bytes := le v.length 8 ++ bodX v (M * 256 - 16)
theorem extH_len (M : Nat) : (extH M).length = 4 := by simp [extH, le_length]
theorem ext_form {v : Bytes} {M : Nat} (h : manyP 3 (v.length : Int) = (M : Int)) (h0 : 1 ≤ M) :
    bareB v M = extH M ++ ([0, 0, 0, 0] ++ extY v M) ∧ (extY v M).length + 8 = M * 256 ∧ ∃ s, sealB (bareB v M) 4 = extH M ++ (le4 s ++ extY v M) := by
  obtain ⟨h33, h1600, h7, hM, hM2⟩ := manyP_ext h h0
  have hbl : (bodX v (M * 256 - 16)).length = M * 256 - 16 := bodX_len (by omega)
  have hl : ((bodX v (M * 256 - 16)).take 240).length = 240 := by rw [List.length_take, hbl]; omega
  have h2 := wrap_good (k := 79) (g := 3) (n := M) (x := v.length) (body := (bodX v (M * 256 - 16)).take 240) (by kernel_rfl) (by unfold rwBad; rw [hl]; simp [tr]; omega) (by omega)
  have h3 := wrapP_shape (k := 79) (g := 3) (n := M) (x := v.length) (body := (bodX v (M * 256 - 16)).take 240) (by kernel_rfl) (by kernel_rfl) (by omega) (by omega) (by simp [tr]; omega) (by rw [hl]; simp [tr])
  obtain ⟨⟨⟨G, hG, e⟩, _, _, _, _, _, hT⟩, _⟩ := h3
  have hG4 : G.length = 4 := by rw [hG]; rfl
  have e2 : wrX v M = UInt8.ofNat 79 :: UInt8.ofNat 3 :: (le M 2 ++ (G ++ (le v.length 8 ++ (bodX v (M * 256 - 16)).take 240))) := by
    have e3 := h2.2.trans e
    rw [show (tr ((3 : Nat) : Int) 248 240 240).toNat = 240 from rfl, padB_full hl] at e3
    exact e3
  have e4 : wrX v M ++ (bodX v (M * 256 - 16)).drop 240 = extH M ++ (G ++ extY v M) := by
    rw [e2]
    unfold extH extY
    simp only [List.cons_append, List.append_assoc, List.take_append_drop]
  have hH := extH_len M
  have hb : bareB v M = extH M ++ ([0, 0, 0, 0] ++ extY v M) := by
    unfold bareB clrB
    rw [e4, List.take_left' hH, ← List.append_assoc (extH M) G, List.drop_left' (by rw [List.length_append, hH, hG4])]
  have hy : (extY v M).length + 8 = M * 256 := by unfold extY; rw [List.length_append, le_length, hbl]; omega
  refine ⟨hb, hy, sum (oth (bareB v M) 4), ?_⟩
  have hr : rm4 (bareB v M).length 4 = true := by
    rw [hb]
    simp only [List.length_append, hH, rm4, decide_eq_true_eq]
    simp only [List.length_cons, List.length_nil]
    omega
  unfold sealB
  rw [if_pos hr, show (4 : Int).toNat = 4 from rfl]
  generalize hs : le4 (sum (oth (bareB v M) 4)) = s
  unfold put4
  rw [hs, hb, List.take_left' hH, ← List.append_assoc (extH M) [0, 0, 0, 0], List.drop_left' (by simp [hH])]
/-- All bytes of an extent. -/
def extE (v : Bytes) (M : Nat) : Bytes := sealB (bareB v M) 4
theorem extE_facts {v : Bytes} {M : Nat} (h : manyP 3 (v.length : Int) = (M : Int)) (h0 : 1 ≤ M) :
    (extE v M).length = M * 256 ∧ isSealed (extE v M) 4 = true ∧ clrB (extE v M) = bareB v M ∧ ((bareB v M).drop 16).take v.length = v ∧ hdE ((extE v M).take 256) = 0 ∧ hdG ((extE v M).take 256) = 3 ∧ (extE v M).getD 1 0 = 3 := by
  obtain ⟨hb, hy, s, hE⟩ := ext_form h h0
  obtain ⟨h33, h1600, h7, hM, hM2⟩ := manyP_ext h h0
  have hH := extH_len M
  have hbl : (bareB v M).length = M * 256 := bareB_len h0 h7 h1600 hM
  have hEl : (extE v M).length = M * 256 := by
    unfold extE
    rw [hE]
    simp only [List.length_append, hH, le4_length]
    omega
  have hE' : extE v M = extH M ++ (le4 s ++ extY v M) := hE
  have hbody : (bodX v (M * 256 - 16)).length = M * 256 - 16 := bodX_len (by omega)
  have ht : (extE v M).take 256 = UInt8.ofNat 79 :: UInt8.ofNat 3 :: (le M 2 ++ (le4 s ++ (le v.length (tr ((3 : Nat) : Int) 4 8 8).toNat ++ (bodX v (M * 256 - 16)).take 240))) := by
    have e1 : extE v M = (extH M ++ (le4 s ++ le v.length 8)) ++ bodX v (M * 256 - 16) := by
      rw [hE']
      unfold extY
      simp only [List.append_assoc]
    have hl16 : (extH M ++ (le4 s ++ le v.length 8)).length = 16 := by simp only [List.length_append, hH, le4_length, le_length]
    rw [e1, List.take_append, hl16, List.take_of_length_le (by rw [hl16]; omega)]
    unfold extH
    simp only [List.cons_append, List.append_assoc]
    rfl
  have hsh : Shape ((extE v M).take 256) 79 3 M v.length ((bodX v (M * 256 - 16)).take 240) := by
    refine ⟨⟨le4 s, by rw [le4_length]; rfl, ht⟩, by kernel_rfl, by kernel_rfl, by omega, by omega, by simp [tr]; omega, ?_⟩
    rw [List.length_take, hbody]
    simp [tr]
    omega
  obtain ⟨_, _, f3, f4, _⟩ := hsh.facts
  refine ⟨hEl, ?_, ?_, ?_, f4, f3, ?_⟩
  · unfold extE sealB
    have hr : rm4 (bareB v M).length 4 = true := by rw [hbl]; simp only [rm4, decide_eq_true_eq]; omega
    rw [if_pos hr]
    exact sealed_put4 _ 4 (by omega)
  · rw [hE']
    unfold clrB
    rw [List.take_left' hH, ← List.append_assoc (extH M) (le4 s), List.drop_left' (by rw [List.length_append, hH, le4_length]), hb]
  · rw [hb]
    have e1 : extH M ++ ([0, 0, 0, 0] ++ extY v M) = (extH M ++ ([0, 0, 0, 0] ++ le v.length 8)) ++ bodX v (M * 256 - 16) := by
      unfold extY
      simp only [List.append_assoc]
    rw [e1, List.drop_left' (by simp [hH, le_length])]
    unfold bodX
    exact List.take_left' rfl
  · rw [hE']
    rfl
/-- An extent is read back as it was. -/
theorem ext_back {ans : Int → Int → Int × Bytes} {v : Bytes} {M : Nat} {id : Int} (h : manyP 3 (v.length : Int) = (M : Int)) (h0 : 1 ≤ M) (hm : mayP 3 (idsX id M) = true) (ha : 2 ≤ M → askP ans (id + 1) ((M : Int) - 1) = (0, (extE v M).drop 256)) :
    extR ans id M v.length ((extE v M).take 256) = (v, idsX id M, true) := by
  obtain ⟨hl, hs, hc, hv, _⟩ := extE_facts h h0
  have hW : extW v.length M (extE v M) (idsX id M) = (v, idsX id M, true) := by
    unfold extW
    rw [if_pos hs, hc, hv]
    simp
  unfold extR
  rw [if_pos hm]
  by_cases h2 : 2 ≤ M
  · rw [if_pos h2, ha h2, if_pos rfl, List.take_append_drop, hW]
  · rw [if_neg h2, List.take_of_length_le (by omega), hW]
theorem ext_torn {ans : Int → Int → Int × Bytes} {E : Bytes} {M : Nat} {id : Int} (N : Nat) (hl : E.length = M * 256) (hs : isSealed E 4 = false) (ha : 2 ≤ M → askP ans (id + 1) ((M : Int) - 1) = (0, E.drop 256)) :
    (extR ans id M N (E.take 256)).2.2 = false := by
  have hW : ∀ is, (extW N M E is).2.2 = false := fun is => by
    unfold extW
    rw [if_neg (by rw [hs]; simp)]
  unfold extR
  by_cases hm : mayP 3 (idsX id M) = true
  · rw [if_pos hm]
    by_cases h2 : 2 ≤ M
    · rw [if_pos h2, ha h2, if_pos rfl, List.take_append_drop, hW]
    · rw [if_neg h2, List.take_of_length_le (by omega), hW]
  · rw [if_neg hm]
theorem idsX_get {id : Int} {M k : Nat} {x : Int} : (idsX id M)[k]? = some x ↔ k < M ∧ x = id + (k : Int) := by
  unfold idsX
  rw [List.getElem?_map]
  rcases Nat.lt_or_ge k M with h | h
  · rw [List.getElem?_range h]
    simp [h, eq_comm]
  · rw [List.getElem?_eq_none (by simpa using h)]
    simp; omega
theorem idsX_take {id : Int} {M k : Nat} (h : k ≤ M) : (idsX id M).take k = idsX id k := by
  unfold idsX
  rw [← List.map_take, List.take_range, Nat.min_eq_left h]
/-- Numbers one behind the other may be anybody's. -/
theorem may_ids {g id : Int} {M : Nat} (h2 : 2 ≤ id) (hM : id + (M : Int) ≤ 16384) : mayP g (idsX id M) = true := by
  rw [mayP_iff]
  intro k hk
  rw [idsX_len] at hk
  have e : (idsX id M)[k]? = some (id + (k : Int)) := idsX_get.2 ⟨hk, rfl⟩
  have e0 : (idsX id M)[0]? = some (id + ((0 : Nat) : Int)) := idsX_get.2 ⟨by omega, rfl⟩
  have hn : id + (k : Int) ∉ (idsX id M).take k := by
    rw [idsX_take (by omega)]
    intro hm
    obtain ⟨i, hi⟩ := List.getElem?_of_mem hm
    obtain ⟨h3, h4⟩ := idsX_get.1 hi
    omega
  unfold goodAt
  rw [e]
  have hi : isId (id + (k : Int)) = true := by unfold isId; rw [decide_eq_true_eq]; omega
  have hd : (idsX id M).getD 0 0 = id := by rw [List.getD_eq_getElem?_getD, e0]; simp
  simp only [hi, hn, hd, decide_false, decide_true, Bool.not_false, Bool.and_self, Bool.or_true]
/-- Pages one behind the other. -/
theorem flat_page : ∀ {L : List Bytes} {k : Nat} {x : Bytes}, (∀ p ∈ L, p.length = 256) → L[k]? = some x → (L.flatten.drop (k * 256)).take 256 = x
  | [], k, x, _, h => by simp at h
  | p :: L, 0, x, hl, h => by
    have := hl p (List.mem_cons_self ..)
    simp only [List.getElem?_cons_zero, Option.some.injEq] at h
    rw [List.flatten_cons, Nat.zero_mul, List.drop_zero, ← h]
    exact List.take_left' this
  | p :: L, k + 1, x, hl, h => by
    have h1 := hl p (List.mem_cons_self ..)
    rw [List.getElem?_cons_succ] at h
    have := flat_page (fun q hq => hl q (List.mem_cons_of_mem _ hq)) h
    rw [List.flatten_cons, show (k + 1) * 256 = 256 + k * 256 by omega, ← List.drop_drop, List.drop_left' h1, this]
theorem pgs_flat : ∀ {L : List Bytes}, (∀ p ∈ L, p.length = 256) → L.flatten.length = L.length * 256
  | [], _ => rfl
  | p :: L, hl => by
    have h1 := hl p (List.mem_cons_self ..)
    rw [List.flatten_cons, List.length_append, pgs_flat fun q hq => hl q (List.mem_cons_of_mem _ hq), h1, List.length_cons]
    omega
theorem chunks_flat (v : Bytes) (m : Nat) : ∀ k, ((List.range k).map (chunkB v m)).flatten = v.take (k * m)
  | 0 => by simp
  | k + 1 => by
    rw [List.range_succ, List.map_append, List.flatten_append, chunks_flat v m k, Nat.succ_mul, List.take_add]
    simp [chunkB]
theorem extB_flat {v : Bytes} {M : Nat} (h : (extE v M).length = M * 256) : (extB v M).flatten = extE v M := by
  unfold extB
  rw [chunks_flat]
  exact List.take_of_length_le (by unfold extE at h; omega)
/-- What an image answers, where it has as many pages. -/
theorem askP_img {img : Bytes} {i n : Nat} (h : (i + n) * 256 ≤ img.length) : askP (imgA img) (i : Int) (n : Int) = (0, (img.drop (i * 256)).take (n * 256)) := by
  have e : imgA img (i : Int) (n : Int) = (0, (img.drop (i * 256)).take (n * 256)) := by
    unfold imgA
    rw [if_neg (by omega), Int.toNat_natCast, Int.toNat_natCast]
  unfold askP
  rw [e, if_neg (by simp), if_neg]
  simp only [List.length_take, List.length_drop]
  omega
/-- A byte of which bits are turned. -/
def turnB (s : Bytes) (i : Nat) (y : UInt8) : Bytes := s.set i (s.getD i 0 ^^^ y)
theorem turnB_len (s : Bytes) (i : Nat) (y : UInt8) : (turnB s i y).length = s.length := by simp [turnB]
theorem turnB_xor {s : Bytes} {i : Nat} {y : UInt8} (h : i < s.length) : turnB s i y = xorRow s fun j => if j = i then y else 0 := by
  apply List.ext_getElem?
  intro j
  unfold turnB xorRow
  rw [List.getElem?_zipWith, trow_get, List.getElem?_set]
  rcases Nat.lt_or_ge j s.length with h1 | h1
  · rw [if_pos h1, List.getElem?_eq_getElem h1]
    by_cases e : i = j
    · subst e
      simp [h, List.getD_eq_getElem?_getD]
    · have e2 : ¬ j = i := fun h => e h.symm
      simp [e, e2]
  · rw [if_neg (by omega), List.getElem?_eq_none h1]
theorem turnB_torn {s : Bytes} {i : Nat} {y : UInt8} (h : i < s.length) (h8 : 8 ≤ s.length) (hy : y ≠ 0) (hs : isSealed s 4 = true) : isSealed (turnB s i y) 4 = false := by
  rw [turnB_xor h]
  exact byte_turned s 4 i _ (by omega) hs h (by simpa using hy) fun j _ hj => if_neg hj
theorem turnB_get {s : Bytes} {i j : Nat} {y : UInt8} (h : j ≠ i) : (turnB s i y).getD j 0 = s.getD j 0 := by
  unfold turnB
  rw [List.getD_eq_getElem?_getD, List.getElem?_set_ne (fun e => h e.symm), ← List.getD_eq_getElem?_getD]
/-- A window of it. -/
theorem turnB_in {s : Bytes} {i a n : Nat} {y : UInt8} (h : a ≤ i) (h2 : i < a + n) : ((turnB s i y).drop a).take n = turnB ((s.drop a).take n) (i - a) y := by
  unfold turnB
  rw [List.drop_set, if_neg (by omega), List.take_set]
  congr 2
  rw [List.getD_eq_getElem?_getD, List.getD_eq_getElem?_getD, List.getElem?_take_of_lt (by omega), List.getElem?_drop]
  congr 3
  omega
theorem turnB_out {s : Bytes} {i a n : Nat} {y : UInt8} (h : i < a ∨ a + n ≤ i) : ((turnB s i y).drop a).take n = (s.drop a).take n := by
  unfold turnB
  rw [List.drop_set]
  split
  · rfl
  · rw [List.take_set, List.set_eq_of_length_le (by rw [List.length_take]; omega)]
/-- Bytes laid over others. -/
def splB (s : Bytes) (a : Nat) (x : Bytes) : Bytes := s.take a ++ (x ++ s.drop (a + x.length))
theorem splB_len {s : Bytes} {a : Nat} {x : Bytes} (h : a + x.length ≤ s.length) : (splB s a x).length = s.length := by
  unfold splB
  simp only [List.length_append, List.length_take, List.length_drop]
  omega
theorem splB_in {s x : Bytes} {a b n : Nat} (h : a + x.length ≤ s.length) (h1 : a ≤ b) (h2 : b + n ≤ a + x.length) : ((splB s a x).drop b).take n = (x.drop (b - a)).take n := by
  unfold splB
  have e : b = a + (b - a) := by omega
  conv => lhs; rw [e]
  rw [← List.drop_drop, List.drop_left' (by rw [List.length_take]; omega), List.drop_append_of_le_length (by omega), List.take_append_of_le_length (by rw [List.length_drop]; omega)]
theorem splB_out {s x : Bytes} {a b n : Nat} (h : a ≤ s.length) (h1 : b + n ≤ a) : ((splB s a x).drop b).take n = (s.drop b).take n := by
  unfold splB
  rw [List.drop_append_of_le_length (by rw [List.length_take]; omega), List.take_append_of_le_length (by rw [List.length_drop, List.length_take]; omega), List.drop_take, List.take_take, Nat.min_eq_left (by omega)]
end Go.Proofs.YtbgnfocfnjlabaaDoor

/-
  The pages of a value; a value with a turned bit.
-/
set_option linter.unusedVariables false
namespace Go.Proofs.YtbgnfocfnjlabaaDoor
open Go.RowKit

/-- The pages of a value. -/
def encB (g : Int) (v : Bytes) (l : List Int) : List Bytes := if g = 3 then extB v l.length else linksB g v (tr g 248 240 240).toNat l (List.range l.length)
theorem encB_len (g : Int) (v : Bytes) (l : List Int) : (encB g v l).length = l.length := by
  unfold encB
  split
  · simp [extB]
  · simp [linksB_len]
theorem encB_page {g : Int} {v : Bytes} {l : List Int} (h : encOk g v.length l = true) : ∀ x ∈ encB g v l, x.length = 256 := by
  intro x hx
  have h' := h
  unfold encOk at h'
  simp only [Bool.and_eq_true, decide_eq_true_eq] at h'
  obtain ⟨⟨hz, hlen⟩, hmay⟩ := h'
  have hgs : g = 1 ∨ g = 2 ∨ g = 3 := manyP_gen fun hm => hz (manyP_no hm)
  unfold encB at hx
  split at hx <;> rename_i hg
  · subst hg
    have hM1 : 1 ≤ l.length := by omega
    obtain ⟨hl, _⟩ := extE_facts (v := v) (M := l.length) hlen.symm hM1
    unfold extB at hx
    obtain ⟨k, hk, rfl⟩ := List.mem_map.1 hx
    rw [List.mem_range] at hk
    have e : (extE v l.length).length = l.length * 256 := hl
    unfold extE at e
    unfold chunkB
    rw [List.length_take, List.length_drop, e]
    have : k * 256 + 256 ≤ l.length * 256 := by omega
    omega
  · rw [linksB_range] at hx
    obtain ⟨k, hk, rfl⟩ := List.mem_map.1 hx
    obtain ⟨n, hn⟩ : ∃ n : Nat, g = (n : Int) := ⟨g.toNat, by omega⟩
    subst hn
    exact (link_shape (g := n) (m := (tr (n : Int) 248 240 240).toNat) (by omega) (by rcases hgs with h | h | h <;> simp [h, tr]) (mayP_bound hmay)).1.facts.1
theorem OEncode_all {w : World} {g : Int} {A UA : Option Addr} {n c q uc : Nat} {v : Bytes} {l : List Int} (hG : Gens w) (hv : Src w (.slice A n c) v) (hu : Ints w (.slice UA q uc) l) (h : encOk g n l = true) :
    Calls Tryd.prog 17 #[.int .i64 g, .slice A n c, .slice UA q uc] w fun e w' => ∃ r, e = .returned (.tuple #[r, .int .i64 0]) ∧ Pgs w.heap.size w' r (encB g v l) ∧ Only (w.heap.size ≤ ·) w w' := by
  have hq := hu.len
  have h' := h
  unfold encOk at h'
  simp only [Bool.and_eq_true, decide_eq_true_eq] at h'
  have hgs : g = 1 ∨ g = 2 ∨ g = 3 := manyP_gen fun hm => h'.1.1 (manyP_no hm)
  unfold encB
  by_cases hg : g = 3
  · subst hg
    rw [if_pos rfl, ← hq]
    exact OEncode_ext (hG := hG) (hv := hv) (hu := hu) (h := h)
  · rw [if_neg hg, ← hq]
    exact OEncode_chain (m := (tr g 248 240 240).toNat) (hG := hG) (hg := by omega) (hm := by rcases hgs with h | h | h <;> simp [h, tr]) (hv := hv) (hu := hu) (h := h)
theorem encOk_ids {g id : Int} {n M : Nat} (hM : manyP g n = (M : Int)) (h1 : 1 ≤ M) (h2 : 2 ≤ id) (h3 : id + (M : Int) ≤ 16384) : encOk g n (idsX id M) = true := by
  unfold encOk
  rw [may_ids h2 h3, hM, idsX_len]
  simp
  omega
theorem manyP_7 {g : Int} {n M : Nat} (hM : manyP g n = (M : Int)) : M ≤ 7 := by
  by_cases hm : (n : Int) ≤ 32 ∨ tr g 400 800 1600 < (n : Int)
  · rw [manyP_no hm] at hM; omega
  · have e := manyP_of hm
    rcases manyP_gen hm with h | h | h <;> subst h <;> simp only [tr, reduceIte, Int.reduceEq] at hm e <;> omega
theorem win_512 (x : Bytes) (k n : Nat) : ((List.replicate 512 0 ++ x).drop ((2 + k) * 256)).take n = (x.drop (k * 256)).take n := by
  rw [show (2 + k) * 256 = 512 + k * 256 by omega, ← List.drop_drop, List.drop_left' List.length_replicate]
/-- A value with a bit turned is none. -/
theorem torn_plain {g : Int} {v : Bytes} {M p t : Nat} {y : UInt8} {img : Bytes} (hg : g = 2 ∨ g = 3) (hM : manyP g (v.length : Int) = (M : Int)) (h1 : 1 ≤ M) (hp : p < M) (ht : 16 ≤ t) (ht2 : t < 2048) (hy : y ≠ 0)
    (himg : img = turnB (List.replicate 512 0 ++ (encB g v (idsX 2 M)).flatten) ((2 + p) * 256 + t / 8) y) :
    img.length = (M + 2) * 256 ∧ (askP (imgA img) 2 1).1 = 0 ∧ ((hdG (askP (imgA img) 2 1).2 : Nat) : Int) = g ∧ (vrOf (imgA img) 2 g v.length (askP (imgA img) 2 1).2).2.2 = false := by
  have h7 := manyP_7 hM
  have hok := encOk_ids (g := g) (id := 2) hM h1 (by omega) (by omega)
  have hpg := encB_page hok
  have hfl := pgs_flat hpg
  rw [encB_len, idsX_len] at hfl
  have hil : img.length = (M + 2) * 256 := by
    rw [himg, turnB_len, List.length_append, List.length_replicate, hfl]
    omega
  have hw : ∀ k n, 1 ≤ n → k + n ≤ M → askP (imgA img) (2 + (k : Int)) (n : Int) = (0, (img.drop ((2 + k) * 256)).take (n * 256)) := fun k n hn hk => by
    have := askP_img (img := img) (i := 2 + k) (n := n) (by rw [hil]; omega)
    rwa [show (((2 + k : Nat)) : Int) = 2 + (k : Int) by omega] at this
  have h0 : askP (imgA img) 2 1 = (0, (img.drop 512).take 256) := by
    have := hw 0 1 (by omega) (by omega)
    simpa using this
  rw [h0]
  refine ⟨hil, rfl, ?_⟩
  simp only
  rcases hg with rfl | rfl
  · -- a chain
    have hL : encB 2 v (idsX 2 M) = linksB 2 v 240 (idsX 2 M) (List.range M) := by unfold encB; rw [if_neg (by decide), idsX_len]; rfl
    rw [hL] at himg hpg hfl
    have hl : ∀ x ∈ idsX 2 M, 2 ≤ x ∧ x < 16384 := by
      intro x hx
      obtain ⟨k, hk⟩ := List.getElem?_of_mem hx
      obtain ⟨h3, h4⟩ := idsX_get.1 hk
      omega
    have hm : ((240 : Nat) : Int) = tr ((2 : Nat) : Int) 248 240 240 := rfl
    have hLk : ∀ k, k < M → (linksB 2 v 240 (idsX 2 M) (List.range M))[k]? = some (linkB 2 v 240 (idsX 2 M) k k) := fun k hk => by rw [linksB_range, List.getElem?_map, List.getElem?_range hk]; rfl
    have hwin : ∀ k, k < M → ((List.replicate 512 0 ++ (linksB 2 v 240 (idsX 2 M) (List.range M)).flatten).drop ((2 + k) * 256)).take 256 = linkB 2 v 240 (idsX 2 M) k k := fun k hk => by rw [win_512]; exact flat_page hpg (hLk k hk)
    have hlk : ∀ k, Shape (linkB 2 v 240 (idsX 2 M) k k) 79 2 (chk v.length 240 k) (nextOf (idsX 2 M) k).toNat (padB 240 (chunkB v 240 k)) ∧ (2 ≠ 1 → isSealed (linkB 2 v 240 (idsX 2 M) k k) 4 = true) := fun k => link_shape (g := 2) (v := v) (l := idsX 2 M) (k := k) (j := k) (Or.inr rfl) hm hl
    obtain ⟨P, hP⟩ : ∃ P : Nat → Bytes, P = fun k => (img.drop ((2 + k) * 256)).take 256 := ⟨_, rfl⟩
    have hPo : ∀ k, k < M → k ≠ p → P k = linkB 2 v 240 (idsX 2 M) k k := fun k hk hkp => by
      rw [hP]
      simp only
      rw [himg, turnB_out (by omega), hwin k hk]
    have hPp : P p = turnB (linkB 2 v 240 (idsX 2 M) p p) (t / 8) y := by
      rw [hP]
      simp only
      rw [himg, turnB_in (by omega) (by omega), hwin p hp]
      congr 1
      omega
    have hP0 : (img.drop 512).take 256 = P 0 := by rw [hP]
    rw [hP0]
    have hs : isSealed (P p) 4 = false := by
      rw [hPp]
      have f := (hlk p).1.facts.1
      exact turnB_torn (by rw [f]; omega) (by rw [f]; omega) hy ((hlk p).2 (by decide))
    have hg2 : hdG (P 0) = 2 := by
      by_cases h : 0 = p
      · rw [← h] at hPp
        rw [hPp]
        unfold hdG
        rw [turnB_get (by omega)]
        exact (hlk 0).1.facts.2.2.1
      · rw [hPo 0 (by omega) h]
        exact (hlk 0).1.facts.2.2.1
    refine ⟨by rw [hg2]; rfl, ?_⟩
    have ha : ∀ k x, (idsX 2 M)[k]? = some x → askP (imgA img) x 1 = (0, P k) := fun k x hx => by
      obtain ⟨h3, rfl⟩ := idsX_get.1 hx
      rw [hP]
      exact hw k 1 (by omega) (by omega)
    unfold vrOf
    rw [if_pos (show sgl 2 = true from rfl)]
    exact chain_torn (v := v) rfl hl P ha (by rw [idsX_len]; exact hp) (by rw [hM]; omega) (fun k hk => hPo k (by omega) (by omega)) hs _ 2
  · -- an extent
    obtain ⟨f1, f2, f3, f4, f5, f6, f7⟩ := extE_facts hM h1
    have hL : (encB 3 v (idsX 2 M)).flatten = extE v M := by unfold encB; rw [if_pos rfl, idsX_len]; exact extB_flat f1
    rw [hL] at himg
    have hE : (img.drop 512).take (M * 256) = turnB (extE v M) (p * 256 + t / 8) y := by
      rw [himg, turnB_in (by omega) (by omega)]
      have h3 := win_512 (extE v M) 0 (M * 256)
      rw [show (2 + 0) * 256 = 512 from rfl, Nat.zero_mul, List.drop_zero] at h3
      rw [h3, List.take_of_length_le (l := extE v M) (by rw [f1]; exact Nat.le_refl _), show (2 + p) * 256 + t / 8 - 512 = p * 256 + t / 8 by omega]
    obtain ⟨E, hEE⟩ : ∃ E, E = turnB (extE v M) (p * 256 + t / 8) y := ⟨_, rfl⟩
    rw [← hEE] at hE
    have hEl : E.length = M * 256 := by rw [hEE, turnB_len, f1]
    have hs : isSealed E 4 = false := by rw [hEE]; exact turnB_torn (by rw [f1]; omega) (by rw [f1]; omega) hy f2
    have h0' : (img.drop 512).take 256 = E.take 256 := by rw [← hE, List.take_take, Nat.min_eq_left (by omega)]
    rw [h0']
    have hg3 : hdG (E.take 256) = 3 := by
      unfold hdG
      have e1 : (E.take 256).getD 1 0 = E.getD 1 0 := by rw [List.getD_eq_getElem?_getD, List.getElem?_take_of_lt (by decide), ← List.getD_eq_getElem?_getD]
      rw [e1, hEE, turnB_get (by omega), f7]
      rfl
    refine ⟨by rw [hg3]; rfl, ?_⟩
    unfold vrOf
    rw [if_neg (show ¬ sgl 3 = true by decide), hM, Int.toNat_natCast]
    refine ext_torn _ hEl hs fun h2 => ?_
    have := hw 1 (M - 1) (by omega) (by omega)
    rw [show (2 : Int) + ((1 : Nat) : Int) = 2 + 1 from rfl, show ((M - 1 : Nat) : Int) = (M : Int) - 1 by omega] at this
    rw [this, ← hE, List.drop_take, List.drop_drop, show M * 256 - 256 = (M - 1) * 256 by omega]
end Go.Proofs.YtbgnfocfnjlabaaDoor

/-
  bytes.Join of the pages of a value: the library's own contract, laid here.
-/
set_option linter.unusedVariables false
namespace Go.Proofs.YtbgnfocfnjlabaaDoor
open Go.RowKit Go.Shelf

def joinRen : Go.Shelf.Ren := ⟨fun | 14 => 18 | 15 => 40 | n => n, fun | 22 => 27 | 26 => 43 | 5 => 5 | n => n, fun | n => n⟩
theorem join_lays : Go.Proofs.SlLaysJ.n14 Tryd.prog joinRen := {
  mixed := by kernel_rfl
  f14 := Tryd.func18.trans (congrArg some (by kernel_rfl))
  f15 := Tryd.func40.trans (congrArg some (by kernel_rfl))
  t0 := Tryd.underlying0
  a0 := Tryd.isAgg0
  z0 := Tryd.sizeOf0
  v0 := Tryd.zeroValue0
  t3 := Tryd.underlying3
  a3 := Tryd.isAgg3
  z3 := Tryd.sizeOf3
  v3 := Tryd.zeroValue3
  t4 := Tryd.underlying4
  a4 := Tryd.isAgg4
  z4 := Tryd.sizeOf4
  v4 := Tryd.zeroValue4
  t9 := Tryd.underlying9
  a9 := Tryd.isAgg9
  z9 := Tryd.sizeOf9
  v9 := Tryd.zeroValue9
  t20 := Tryd.underlying20
  a20 := Tryd.isAgg20
  z20 := Tryd.sizeOf20
  v20 := Tryd.zeroValue20
  t22 := Tryd.underlying27
  a22 := Tryd.isAgg27
  z22 := Tryd.sizeOf27
  v22 := Tryd.zeroValue27
  t26 := Tryd.underlying43
  a26 := Tryd.isAgg43
  z26 := Tryd.sizeOf43
  v26 := Tryd.zeroValue43
  t5 := Tryd.underlying5
  z5 := Tryd.sizeOf5
  i5 := by kernel_rfl }
theorem src_holds {w : World} {v : Value} {xs : Bytes} (h : Src w v xs) : Lib.HoldsBytes w v xs := by
  obtain ⟨A, c, rfl, ht, _⟩ := h
  refine ⟨A, c, rfl, fun e => ?_, fun a e i x hx => ?_⟩
  · cases xs with
    | nil => rfl
    | cons y ys =>
      obtain ⟨ad, e2, _⟩ := ht.2 (by simp)
      rw [e] at e2; cases e2
  · exact ht.src a e i _ (by unfold cb; rw [List.getElem?_map, hx]; rfl)
theorem rw_parts {w : World} {b off n c : Nat} {xs : List Bytes} (h : Rw pgE w (.slice (some ⟨b, off, none⟩) n c) xs) : ∃ vs, Lib.PartsAt w ⟨b, off, none⟩ vs xs := by
  obtain ⟨A, c', C, e, hd, hr, _⟩ := h
  simp only [Value.slice.injEq] at e
  obtain ⟨rfl, e2, rfl⟩ := e
  have hz : ∀ (x : Bytes) cs, pgE.At w x cs → cs.length = 1 := fun x cs ⟨A, c, e, _⟩ => by rw [e]; rfl
  refine ⟨C, by rw [Den.length hz hd, Nat.mul_one], fun i v hv => hr.src _ rfl i v hv, fun i v l hv hl => ?_⟩
  obtain ⟨cs, ⟨A', c', e, hs⟩, hc⟩ := Den.get hz hd hl
  have := hc 0 (.slice A' l.length c') (by rw [e]; rfl)
  rw [Nat.mul_one, Nat.add_zero, hv] at this
  rw [Option.some.inj this]
  exact src_holds hs
theorem fresh_src {B : Nat} {w : World} {v : Value} {xs : Bytes} (h : Lib.FreshBytes B w v xs) : ∃ ad c, v = .slice (some ad) xs.length c ∧ Src w v xs := by
  obtain ⟨g, cap, zs, rfl, _, hlc, hcm, hzl, hz, hb, hc, _⟩ := h
  refine ⟨⟨g, 0, none⟩, cap, rfl, some ⟨g, 0, none⟩, cap, rfl, ⟨rfl, fun _ => ⟨_, rfl, fun j u hu => ?_⟩⟩, (fun e => by cases e), hlc, by simp only [maxLen] at hcm; omega⟩
  unfold cb at hu
  rw [List.getElem?_map] at hu
  obtain ⟨x, hx, rfl⟩ := Option.map_eq_some_iff.1 hu
  have hj : j < xs.length := (List.getElem?_eq_some_iff.1 hx).1
  have hjz : j < zs.length := by omega
  have e1 := hc j (by omega)
  have hx2 := hx
  rw [← hb] at hx2
  unfold Lib.bytesOf at hx2
  rw [List.getElem?_map, List.getElem?_take_of_lt hj, List.getElem?_eq_getElem hjz] at hx2
  have e2 := Option.some.inj hx2
  have e3 := hz _ (List.getElem_mem hjz)
  have e4 : zs.getD j 0 = (x.toNat : Int) := by
    rw [List.getD_eq_getElem?_getD, List.getElem?_eq_getElem hjz, ← e2]
    simp only [Option.getD_some, UInt8.toNat_ofNat']
    omega
  rw [e4] at e1
  rw [show (⟨g, 0, none⟩ : Addr).add j = ⟨g, j, none⟩ by rw [Addr.add_mid, Nat.zero_add]]
  exact e1
theorem lens_flat (xs : List Bytes) : Lib.lens xs = xs.flatten.length := by simp [Lib.lens, List.length_flatten]
theorem pgs_rw {b : Nat} {w : World} {v : Value} {xs : List Bytes} (h : Pgs b w v xs) : Rw pgE w v xs := by
  obtain ⟨C, h1, h2⟩ := h
  obtain ⟨A, c, rfl, hr, h4, h5, h6, _⟩ := raw_of_own h1
  exact ⟨A, c, C, rfl, h2.mono fun x cs ⟨A, c, e, hn, _⟩ => ⟨A, c, e, hn.src⟩, hr, h4, h5, h6⟩
theorem join_flat (xs : List Bytes) (h : 1 ≤ xs.length) : Lib.join xs [] = xs.flatten := by
  cases xs with
  | nil => simp at h
  | cons x r =>
    rw [Lib.join_cons, List.flatten_cons]
    unfold Lib.joinTail
    simp
/-- bytes.Join of pages. -/
theorem join_c {w : World} {v : Value} {xs : List Bytes} (h : Rw pgE w v xs) (h1 : 1 ≤ xs.length) (hl : ∀ x ∈ xs, x.length = 256) (hn : xs.length ≤ 1000) :
    Calls Tryd.prog 18 #[v, .slice none 0 0] w fun e w' => ∃ ad c, e = .returned (.slice (some ad) xs.flatten.length c) ∧ Src w' (.slice (some ad) xs.flatten.length c) xs.flatten ∧ Only (w.heap.size ≤ ·) w w' := by
  have hfl := pgs_flat hl
  obtain ⟨A, c, C, rfl, hd, hr, hA, hc, hm⟩ := id h
  have hz : ∀ (x : Bytes) cs, pgE.At w x cs → cs.length = 1 := fun x cs ⟨A, c, e, _⟩ => by rw [e]; rfl
  have hCl : C.length = xs.length := by rw [Den.length hz hd, Nat.mul_one]
  obtain ⟨b, off, rfl, hb, hcell⟩ := hr (by omega)
  have fin : ∀ (e : Ending) (w' : World), (∃ v', e = .returned v' ∧ Lib.FreshBytes w.heap.size w' v' xs.flatten ∧ Below w.heap.size w w') → ∃ ad c, e = .returned (.slice (some ad) xs.flatten.length c) ∧ Src w' (.slice (some ad) xs.flatten.length c) xs.flatten ∧ Only (w.heap.size ≤ ·) w w' := fun e w' ⟨v', e1, hf, hbl⟩ => by
    obtain ⟨ad, c, rfl, hs⟩ := fresh_src hf
    exact ⟨ad, c, e1, hs, Only.below hbl⟩
  by_cases h2 : 2 ≤ xs.length
  · obtain ⟨vs, hp⟩ := rw_parts h
    have := Any.bytes_Join_many join_lays b off xs.length c vs xs (.slice none 0 0) [] w rfl h2 hp hc (src_holds (Src.nil_ w)) (by omega) (by rw [lens_flat]; simp only [List.length_nil]; omega)
    refine this.mono fun e w' hq => fin e w' ?_
    rw [join_flat xs h1] at hq
    exact hq
  · obtain ⟨x, rfl⟩ := List.length_eq_one_iff.1 (show xs.length = 1 by omega)
    obtain ⟨cs, ⟨A', c', e, hs⟩, hcs⟩ := Den.get hz hd (k := 0) (x := x) rfl
    have hx := hl x (by simp)
    obtain ⟨A2, c2, e2, ht, _⟩ := hs
    simp only [Value.slice.injEq, true_and] at e2
    obtain ⟨rfl, rfl⟩ := e2
    obtain ⟨ad, rfl, hcx⟩ := ht.2 (by omega)
    have h3 := hcell 0 (.slice (some ad) x.length c') (by have := hcs 0 (.slice (some ad) x.length c') (by rw [e]; rfl); simpa using this)
    have := Any.bytes_Join_one join_lays b off c ad c' x (.slice none 0 0) w h3 (fun i y hy => hcx i _ (by unfold cb; rw [List.getElem?_map, hy]; rfl)) (by omega) (by omega)
    refine this.mono fun e w' hq => fin e w' ?_
    simpa using hq
end Go.Proofs.YtbgnfocfnjlabaaDoor

