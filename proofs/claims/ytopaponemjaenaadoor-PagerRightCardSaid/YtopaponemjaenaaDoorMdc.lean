/-
  Metas: what Decode answers.
-/
import Derived.Test.YtopaponemjaenaaDoorMdd
set_option linter.unusedVariables false
namespace Go.Proofs.YtopaponemjaenaaDoor
open Go.RowKit

def okL (M : List Int) (n : Nat) : Bool := match M with
  | [g, ph, t, x, r, p, l] => okM g ph t x r p l n
  | _ => false
/-- The page of a meta, as the writer makes it. -/
def encB (M : List Int) (xs : Bytes) : Bytes := sealB (mC M (M.getD 0 0) xs).out 252
theorem mC_len (M : List Int) (g : Int) (xs : Bytes) : (mC M g xs).b.length = 256 := by
  unfold mC
  rw [Cur.write_len, Cur.take_b]
  unfold mC2 mC1
  rw [Cur.write_len, puts_len, Cur.put_len, puts_len, Cur.write_len]
  show (List.replicate (size 256) (0 : UInt8)).length = 256
  rw [List.length_replicate]
  rfl
theorem mC_out (M : List Int) (g : Int) (xs : Bytes) : (mC M g xs).out.length ≤ 65536 := by
  unfold Cur.out
  split
  · exact Nat.zero_le _
  · rw [mC_len]; decide
theorem MEncode_l (W : World) (M : List Int) (xs : Bytes) (hI : ∀ u ∈ M, I64 u) (hG : Gens W) (g ph t x r p l : Int) (A : Option Addr) (n c : Nat) (hM : M = [g, ph, t, x, r, p, l]) (hn : n = xs.length) (hs : Src W (.slice A n c) xs) :
    Calls Tryd.prog 55 #[.agg #[.int .i64 g, .int .i64 ph, .int .i64 t, .int .i64 x, .int .i64 r, .int .i64 p, .int .i64 l, .slice A n c]] W (GaveBE W (if okL M xs.length = true then encB M xs else []) (if okL M xs.length = true then 0 else 92)) := by
  subst hM
  subst hn
  by_cases h : okM g ph t x r p l xs.length = true
  · have h2 : okL [g, ph, t, x, r, p, l] xs.length = true := h
    rw [if_pos h2, if_pos h2]
    exact MEncode_yes W g ph t x r p l A xs.length c hG xs hs rfl hI h (mC_out _ _ _)
  · have h2 : ¬ okL [g, ph, t, x, r, p, l] xs.length = true := h
    rw [if_neg h2, if_neg h2]
    exact MEncode_no W g ph t x r p l A xs.length c hG (by simpa using h)
theorem val_i64 (c : Cur) (k : Int) : I64 ((c.val k : Nat) : Int) := by
  unfold Cur.val I64
  split
  · rename_i h
    unfold Cur.may at h
    simp only [Bool.and_eq_true, decide_eq_true_eq] at h
    omega
  · omega
theorem gets_i64 (k : Int) : ∀ (n o : Nat) (c : Cur) (M : List Int), (∀ u ∈ M, I64 u) → ∀ u ∈ (gets k n o c M).2, I64 u
  | 0, _, _, _, h => h
  | n + 1, o, c, M, h => gets_i64 k n (o + 1) _ _ fun u hu => by
    rcases List.mem_or_eq_of_mem_set hu with h1 | h1
    · exact h u h1
    · rw [h1]; exact val_i64 c k
theorem rG2_i64 (b : Bytes) : ∀ u ∈ (rG2 b).2, I64 u := gets_i64 _ _ _ _ _ (gets_i64 _ _ _ _ _ fun u hu => by
  have : u = 0 := by simpa using hu
  subst this
  unfold I64
  omega)
/-- Why there is no meta; 0: there is one. -/
def mdE (b : Bytes) : Int := if markedB b = false then 90 else if isSealed b 252 = false then 91 else if ¬ (gen ((rG2 b).2.getD 0 0) = true ∧ (rG2 b).2.getD 2 0 ≤ 3) then 93 else if okL (rG2 b).2 (rCursor b).length = true ∧ encB (rG2 b).2 (rCursor b) = b then 0 else 92
def mdM (b : Bytes) : List Int := if mdE b = 0 then (rG2 b).2 else [0, 0, 0, 0, 0, 0, 0]
def mdX (b : Bytes) : Bytes := if mdE b = 0 then rCursor b else []
theorem MDecode_c (w : World) (v : Value) (b : Bytes) (hG : Gens w) (hs : Src w v b) (hn : b.length ≤ 65536) : Calls Tryd.prog 60 #[v] w (GaveME w (mdM b) (mdX b) (mdE b)) := by
  obtain ⟨A, c, rfl, _⟩ := id hs
  have hMA : ∀ W, Only (w.heap.size ≤ ·) w W → Calls Tryd.prog 77 #[.slice A b.length c] W (Told W (.bool (markedB b))) := fun W hW => Mmarked_c W _ b (hs.later hW)
  have hSE : ∀ W, Only (w.heap.size ≤ ·) w W → Calls Tryd.prog 78 #[.slice A b.length c, .int .i64 252] W (Told W (.bool (isSealed b 252))) := fun W hW => Sealed_t W _ b (hs.later hW) hn
  have hRE : ∀ W, Only (w.heap.size ≤ ·) w W → Calls Tryd.prog 79 #[.slice A b.length c] W (GaveMt W (rG2 b).2 (rCursor b)) := fun W hW => Mread_c W _ b (hG.later hW) (hs.later hW) hn
  have hSS : ∀ W, Only (w.heap.size ≤ ·) w W → Src W (.slice A b.length c) b := fun W hW => hs.later hW
  have hEN : ∀ W g ph t x r p l A2 n2 c2, (rG2 b).2 = [g, ph, t, x, r, p, l] → n2 = (rCursor b).length → Only (w.heap.size ≤ ·) w W → Src W (.slice A2 n2 c2) (rCursor b) → Calls Tryd.prog 55 #[.agg #[.int .i64 g, .int .i64 ph, .int .i64 t, .int .i64 x, .int .i64 r, .int .i64 p, .int .i64 l, .slice A2 n2 c2]] W (GaveBE W (if okL (rG2 b).2 (rCursor b).length = true then encB (rG2 b).2 (rCursor b) else []) (if okL (rG2 b).2 (rCursor b).length = true then 0 else 92)) := fun W g ph t x r p l A2 n2 c2 h1 h2 h3 h4 => MEncode_l W _ _ (rG2_i64 b) (hG.later h3) g ph t x r p l A2 n2 c2 h1 h2 h4
  by_cases h1 : markedB b = false
  · have e : mdE b = 90 := by unfold mdE; rw [if_pos h1]
    unfold mdM mdX
    rw [e, if_neg (by decide), if_neg (by decide)]
    rw [h1] at hMA
    exact dec_90 w A _ c hMA
  have h1' : markedB b = true := by simpa using h1
  rw [h1'] at hMA
  by_cases h2 : isSealed b 252 = false
  · have e : mdE b = 91 := by unfold mdE; rw [if_neg h1, if_pos h2]
    unfold mdM mdX
    rw [e, if_neg (by decide), if_neg (by decide)]
    rw [h2] at hSE
    exact dec_91 w A _ c hMA hSE
  have h2' : isSealed b 252 = true := by simpa using h2
  rw [h2'] at hSE
  by_cases h3 : gen ((rG2 b).2.getD 0 0) = true ∧ (rG2 b).2.getD 2 0 ≤ 3
  · by_cases h4 : okL (rG2 b).2 (rCursor b).length = true ∧ encB (rG2 b).2 (rCursor b) = b
    · have e : mdE b = 0 := by unfold mdE; rw [if_neg h1, if_neg h2, if_neg (fun h => h h3), if_pos h4]
      unfold mdM mdX
      rw [e, if_pos rfl, if_pos rfl]
      rw [if_pos h4.1, if_pos h4.1, h4.2] at hEN
      exact dec_0 w A _ c hMA hSE _ _ hRE h3 b hSS hEN
    · have e : mdE b = 92 := by unfold mdE; rw [if_neg h1, if_neg h2, if_neg (fun h => h h3), if_neg h4]
      unfold mdM mdX
      rw [e, if_neg (by decide), if_neg (by decide)]
      refine dec_92 w A _ c hMA hSE _ _ hRE h3 _ b _ hSS hEN ?_
      by_cases h5 : okL (rG2 b).2 (rCursor b).length = true
      · rw [if_pos h5, if_pos h5]
        exact .inr ⟨rfl, fun e => h4 ⟨h5, e⟩⟩
      · rw [if_neg h5]
        exact .inl (by decide)
  · have e : mdE b = 93 := by unfold mdE; rw [if_neg h1, if_neg h2, if_pos h3]
    unfold mdM mdX
    rw [e, if_neg (by decide), if_neg (by decide)]
    refine dec_93 w A _ c hMA hSE _ _ hRE ?_
    by_cases hg : gen ((rG2 b).2.getD 0 0) = true
    · exact .inr ⟨hg, by have : ¬ (rG2 b).2.getD 2 0 ≤ 3 := fun h => h3 ⟨hg, h⟩; omega⟩
    · exact .inl (by simpa using hg)
end Go.Proofs.YtopaponemjaenaaDoor
