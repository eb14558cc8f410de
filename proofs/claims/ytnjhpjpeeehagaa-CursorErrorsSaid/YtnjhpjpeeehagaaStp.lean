/-
  A region that draws its order, walked by hand, with closed facts that the kernel finds quickly: its operations as a list.
-/
import Derived.Test.YtnjhpjpeeehagaaRoom
set_option linter.unusedVariables false
namespace Go.Proofs.Ytnjhpjpeeehagaa
open Go.RowKit

section
variable {P : Program} {Q : Exit → Act → World → Prop} {md : Region.Mode} {S : World → Prop}
/-- Have all come up for which an operation waits? -/
def depsIn (md : Region.Mode) (B : List Bool) (o : Oper) : Bool := o.after.toList.all fun e => !Region.binds md e || B.getD e.on false
def readyP (md : Region.Mode) (B : List Bool) (i : Nat) (o : Oper) : Bool := !B.getD i true && depsIn md B o
theorem depsIn_eq (md : Region.Mode) (B : List Bool) (o : Oper) : depsIn md B o = o.after.all fun e => !Region.binds md e || B.toArray.getD e.on false := by
  unfold depsIn
  rw [← Array.all_toList]
  congr 1
  funext e
  simp
theorem ready_of {L : List Oper} {B : List Bool} {i : Nat} {o : Oper} (hi : L[i]? = some o) (h : readyP md B i o = true) : (Region.ready md L.toArray B.toArray).contains i = true := by
  unfold readyP at h
  rw [depsIn_eq, Bool.and_eq_true] at h
  rw [List.contains_iff_mem]
  unfold Region.ready
  rw [List.mem_filter, List.mem_range]
  refine ⟨by rw [List.size_toArray]; exact (List.getElem?_eq_some_iff.1 hi).1, ?_⟩
  rw [Bool.and_eq_true]
  refine ⟨by simpa using h.1, ?_⟩
  rw [List.getElem?_toArray, hi]
  exact h.2
/-- Which may come up now. -/
def readyF (md : Region.Mode) (B : List Bool) : Nat → List Oper → List Bool → List Nat
  | k, o :: os, b :: bs => if (!b && depsIn md B o) = true then k :: readyF md B (k + 1) os bs else readyF md B (k + 1) os bs
  | _, _, _ => []
theorem readyF_eq {L : List Oper} {B : List Bool} (hl : B.length = L.length) : ∀ (os : List Oper) (k : Nat), os = L.drop k →
    (List.range' k os.length).filter (fun i => !B.toArray.getD i true && ((L.toArray[i]?).map (fun o => o.after.all fun e => !Region.binds md e || B.toArray.getD e.on false)).getD false) = readyF md B k os (B.drop k)
  | [], k, h => by
    unfold readyF
    simp
  | o :: os, k, h => by
    have hk : L[k]? = some o := by
      have := congrArg (·[0]?) h
      simpa [List.getElem?_drop] using this.symm
    have hkl := (List.getElem?_eq_some_iff.1 hk).1
    obtain ⟨b, hb⟩ : ∃ b, B[k]? = some b := ⟨_, List.getElem?_eq_getElem (by omega)⟩
    have hbd : B.drop k = b :: B.drop (k + 1) := by
      rw [List.drop_eq_getElem_cons (by omega)]
      rw [List.getElem?_eq_getElem (by omega)] at hb
      rw [Option.some.inj hb]
    have ht : os = L.drop (k + 1) := by
      have := congrArg List.tail h
      simpa using this
    have ih := readyF_eq hl os (k + 1) ht
    rw [hbd, readyF, List.length_cons, List.range'_succ, List.filter_cons, ih]
    have e1 : B.toArray.getD k true = b := by
      rw [List.getElem?_eq_getElem (by omega)] at hb
      rw [← Option.some.inj hb]
      simp [Array.getD, show k < B.length by omega]
    have e2 : ((L.toArray[k]?).map (fun o => o.after.all fun e => !Region.binds md e || B.toArray.getD e.on false)).getD false = depsIn md B o := by
      rw [List.getElem?_toArray, hk, depsIn_eq]
      rfl
    rw [e1, e2]
theorem ready_all {L : List Oper} {B : List Bool} {rs : List Nat} (hl : B.length = L.length) (h : readyF md B 0 L B = rs) : Region.ready md L.toArray B.toArray = rs := by
  have := readyF_eq (md := md) hl L 0 rfl
  rw [List.drop_zero, h] at this
  rw [← this]
  unfold Region.ready
  rw [List.size_toArray, List.range_eq_range']
/-- May it be taken first? (B: the list behind it.) -/
def freeP (md : Region.Mode) (ops : Array Oper) (oi : Oper) (i : Nat) : List Oper → List Bool → Bool
  | o :: os, b :: bs => (b || oi.apart ops o || o.after.toList.any fun e => Region.binds md e && e.on == i) && freeP md ops oi i os bs
  | _, _ => true
theorem freeP_at {ops : Array Oper} {oi : Oper} {i : Nat} : ∀ {L : List Oper} {B : List Bool}, freeP md ops oi i L B = true → ∀ (j : Nat) (o : Oper) (b : Bool), L[j]? = some o → B[j]? = some b → (b || oi.apart ops o || o.after.toList.any fun e => Region.binds md e && e.on == i) = true
  | o :: os, b :: bs, h, 0, _, _, h1, h2 => by
    cases h1
    cases h2
    rw [freeP, Bool.and_eq_true] at h
    exact h.1
  | o :: os, b :: bs, h, j + 1, o', b', h1, h2 => by
    rw [freeP, Bool.and_eq_true] at h
    exact freeP_at h.2 j o' b' (by simpa using h1) (by simpa using h2)
  | [], _, _, _, _, _, h1, _ => by simp at h1
  | _ :: _, [], _, _, _, _, _, h2 => by simp at h2
theorem free_of {L : List Oper} {B : List Bool} {i : Nat} {o : Oper} (hi : L[i]? = some o) (h : freeP md L.toArray o i L (B.set i true) = true) : Region.free md L.toArray B.toArray i = true := by
  unfold Region.free
  rw [List.getElem?_toArray, hi]
  simp only [List.all_eq_true, List.mem_range, List.size_toArray]
  intro j hj
  by_cases hji : j = i
  · simp [hji]
  obtain ⟨oj, hoj⟩ : ∃ x, L[j]? = some x := ⟨_, List.getElem?_eq_getElem hj⟩
  cases hb : B[j]? with
  | none =>
    have : B.toArray.getD j true = true := by
      have := List.getElem?_eq_none_iff.1 hb
      simp [Array.getD, show ¬ j < B.length by omega]
    simp [this]
  | some b =>
    have h1 := freeP_at h j oj b hoj (by rw [List.getElem?_set_ne (Ne.symm hji)]; exact hb)
    have h2 : B.toArray.getD j true = b := by
      obtain ⟨hlt, he⟩ := List.getElem?_eq_some_iff.1 hb
      simp [Array.getD, hlt, he]
    rw [h2, List.getElem?_toArray, hoj]
    cases b
    · simp only [Bool.false_or, Bool.or_eq_true, Bool.or_false] at h1 ⊢
      rcases h1 with h1 | h1
      · exact .inr (.inr h1)
      · refine .inr (.inl ?_)
        rw [← Array.any_toList]
        exact h1
    · simp

def freeI (md : Region.Mode) (L : List Oper) (B : List Bool) (i : Nat) : Bool := match L[i]? with
  | some oi => freeP md L.toArray oi i L (B.set i true)
  | none => false
theorem freeI_of {L : List Oper} {B : List Bool} {i : Nat} {o : Oper} (hi : L[i]? = some o) (h : freeI md L B i = true) : Region.free md L.toArray B.toArray i = true := by
  unfold freeI at h
  rw [hi] at h
  exact free_of hi h
def readyI (md : Region.Mode) (L : List Oper) (B : List Bool) (i : Nat) : Bool := match L[i]? with
  | some oi => readyP md B i oi
  | none => false
theorem readyI_of {L : List Oper} {B : List Bool} {i : Nat} {o : Oper} (hi : L[i]? = some o) (h : readyI md L B i = true) : (Region.ready md L.toArray B.toArray).contains i = true := by
  unfold readyI at h
  rw [hi] at h
  exact ready_of hi h
/-- 'wpAnyH', of lists. -/
def wpAnyL (P : Program) (L : List Oper) (Q : Exit → Act → World → Prop) (S : World → Prop) (fuel : Nat) (B : List Bool) (a : Act) (w : World) : Prop := wpAnyH P .any L.toArray Q S fuel B.toArray a w
variable {L : List Oper} {B : List Bool} {a : Act} {w : World} {fuel : Nat}
theorem take_oneL {i d : Nat} {oi : Oper} {v : Value} (hi : L[i]? = some oi)
    (hs : Hid (Region.noSelect L.toArray = true)) (hf : freeI .any L B i = true) (hr : readyI .any L B i = true)
    (hQ : ∀ c a w, Q (.panic c) (a.put (some d) v) w → Q (.panic c) a w) (hd : oi.dst = some d) (hw : Region.wanted oi (yielded L.toArray a.tmps) = true) (hy : ∀ w, S w → (execOp a.eval oi).run P w = .ok (.value v) w) (hS : S w)
    (h : wpAnyL P L Q S fuel (B.set i true) (a.put (some d) v) w) : wpAnyL P L Q S (fuel + 1) B a w :=
  take_one (by rw [List.getElem?_toArray]; exact hi) hs.out (freeI_of hi hf) (readyI_of hi hr) hQ hd hw hy hS (by rw [List.setIfInBounds_toArray]; exact h)
/-- take_oneL, told in one row. -/
theorem oneA (i d : Nat) {oi : Oper} {v : Value} (hs : Hid (Region.noSelect L.toArray = true)) (hi : L[i]? = some oi := by first | rfl | (simp only [List.getElem?_cons_succ, List.getElem?_cons_zero]; rfl))
    (hf : freeI .any L B i = true := by kernel_rfl) (hr : readyI .any L B i = true := by kernel_rfl) (hQ : ∀ c a w, Q (.panic c) (a.put (some d) v) w → Q (.panic c) a w := by exact fun _ _ _ h => h)
    (hd : oi.dst = some d := by rfl) (hw : Region.wanted oi (yielded L.toArray a.tmps) = true := by rfl) (hy : ∀ w, S w → (execOp a.eval oi).run P w = .ok (.value v) w := by (intro w' hSw; (try dsimp only at hSw); go_simp; (try with_reducible rfl)))
    (hS : S w := by assumption) (h : wpAnyL P L Q S fuel (B.set i true) (a.put (some d) v) w) : wpAnyL P L Q S (fuel + 1) B a w :=
  take_oneL hi hs hf hr hQ hd hw hy hS h
theorem take_skipL {i d : Nat} {oi : Oper} (hi : L[i]? = some oi)
    (hs : Hid (Region.noSelect L.toArray = true)) (hf : freeI .any L B i = true) (hr : readyI .any L B i = true)
    (hQ : ∀ c a w, Q (.panic c) (a.put (some d) undef) w → Q (.panic c) a w) (hd : oi.dst = some d) (hw : Region.wanted oi (yielded L.toArray a.tmps) = false) (hS : S w)
    (h : wpAnyL P L Q S fuel (B.set i true) (a.put (some d) undef) w) : wpAnyL P L Q S (fuel + 1) B a w :=
  take_skip (by rw [List.getElem?_toArray]; exact hi) hs.out (freeI_of hi hf) (readyI_of hi hr) hQ hd hw hS (by rw [List.setIfInBounds_toArray]; exact h)
theorem wpAnyL_done (hl : B.length = L.length) (hr : readyF .any B 0 L B = []) (h : Q .normal a w) (fuel : Nat) : wpAnyL P L Q S fuel B a w := wpAnyH_done (ready_all hl hr) h fuel
def AllReadyL (P : Program) (L : List Oper) (Q : Exit → Act → World → Prop) (S : World → Prop) (fuel : Nat) (B : List Bool) (a : Act) (w : World) (rs : List Nat) : Prop := AllReadyH P .any L.toArray Q S fuel B.toArray a w rs
theorem AllReadyL.nil : AllReadyL P L Q S fuel B a w [] := AllReadyH.nil
theorem AllReadyL.cons {i : Nat} {o : Oper} {rs : List Nat} (ho : L[i]? = some o)
    (h : ∀ K' : Act → World → Prop, Shut (∀ a w, S w → (S w → wpAnyL P L Q S fuel (B.set i true) a w) → K' a w) → if Region.wanted o (yielded L.toArray a.tmps) = true then Oper.wp P o a w K' Q else K' (a.put o.dst undef) w)
    (hs : AllReadyL P L Q S fuel B a w rs) : AllReadyL P L Q S fuel B a w (i :: rs) :=
  AllReadyH.cons (by rw [List.getElem?_toArray]; exact ho) (fun K hK => h K fun a w hS hW => hK.out a w hS fun hS => by have := hW hS; unfold wpAnyL at this; rw [List.setIfInBounds_toArray]; exact this) hs
theorem wpAnyL_ready {rs : List Nat} (hl : B.length = L.length) (hr : readyF .any B 0 L B = rs) (hne : rs ≠ [])
    (h : AllReadyL P L Q S fuel B a w rs) : wpAnyL P L Q S (fuel + 1) B a w := wpAnyH_ready (ready_all hl hr) hne h
theorem wp_region_norm {id : Nat} {L0 : List Oper} (hL : L0 = L) (h : (Code.region id L.toArray true).wp P Q a w) : (Code.region id L0.toArray true).wp P Q a w := hL ▸ h
theorem wp_region_list {id : Nat} (hm : P.follows .mixedOrders = true) (hB : List.replicate L.length false = B) (hs : Region.noSelect L.toArray = true) (hS : S w.drew)
    (h : Hid (Region.noSelect L.toArray = true) → S w.drew → wpAnyL P L Q S L.length B a w.drew) : (Code.region id L.toArray true).wp P Q a w := by
  subst hB
  refine wp_region_held_drew hm hS fun h0 => ?_
  have := h (Lib.hid hs) h0
  unfold wpAnyL at this
  rw [List.size_toArray, ← List.toArray_replicate]
  exact this
end
end Go.Proofs.Ytnjhpjpeeehagaa
