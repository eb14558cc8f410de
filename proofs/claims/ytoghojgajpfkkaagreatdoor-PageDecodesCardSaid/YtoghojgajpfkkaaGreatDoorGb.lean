/-
  Several texts, as one.
-/
import Derived.Test.YtoghojgajpfkkaaGreatDoorGa
import Derived.Laws.OwnMore
/-
  A region that draws its order, walked by hand, with closed facts that the kernel finds quickly: its operations as a list.
-/
set_option linter.unusedVariables false
namespace Go.Proofs.YtoghojgajpfkkaaGreatDoor
open Go.RowKit

section
variable {P : Program} {Q : Exit → Act → World → Prop} {md : Region.Mode} {S : World → Prop}
/-- Have all come up for which an operation waits? -/
def depsIn (md : Region.Mode) (B : List Bool) (o : Oper) : Bool := o.after.toList.all fun e => !Region.binds md e || B.getD e.on false
def readyP (md : Region.Mode) (B : List Bool) (i : Nat) (o : Oper) : Bool := !B.getD i true && depsIn md B o
theorem depsIn_eq (md : Region.Mode) (B : List Bool) (o : Oper) : depsIn md B o = o.after.all fun e => !Region.binds md e || B.toArray.getD e.on false := by
  unfold depsIn
  rw [← Array.all_toList]
  congr 1
  funext e
  simp
theorem ready_of {L : List Oper} {B : List Bool} {i : Nat} {o : Oper} (hi : L[i]? = some o) (h : readyP md B i o = true) : (Region.ready md L.toArray B.toArray).contains i = true := by
  unfold readyP at h
  rw [depsIn_eq, Bool.and_eq_true] at h
  rw [List.contains_iff_mem]
  unfold Region.ready
  rw [List.mem_filter, List.mem_range]
  refine ⟨by rw [List.size_toArray]; exact (List.getElem?_eq_some_iff.1 hi).1, ?_⟩
  rw [Bool.and_eq_true]
  refine ⟨by simpa using h.1, ?_⟩
  rw [List.getElem?_toArray, hi]
  exact h.2
/-- Which may come up now. -/
def readyF (md : Region.Mode) (B : List Bool) : Nat → List Oper → List Bool → List Nat
  | k, o :: os, b :: bs => if (!b && depsIn md B o) = true then k :: readyF md B (k + 1) os bs else readyF md B (k + 1) os bs
  | _, _, _ => []
theorem readyF_eq {L : List Oper} {B : List Bool} (hl : B.length = L.length) : ∀ (os : List Oper) (k : Nat), os = L.drop k →
    (List.range' k os.length).filter (fun i => !B.toArray.getD i true && ((L.toArray[i]?).map (fun o => o.after.all fun e => !Region.binds md e || B.toArray.getD e.on false)).getD false) = readyF md B k os (B.drop k)
  | [], k, h => by
    unfold readyF
    simp
  | o :: os, k, h => by
    have hk : L[k]? = some o := by
      have := congrArg (·[0]?) h
      simpa [List.getElem?_drop] using this.symm
    have hkl := (List.getElem?_eq_some_iff.1 hk).1
    obtain ⟨b, hb⟩ : ∃ b, B[k]? = some b := ⟨_, List.getElem?_eq_getElem (by omega)⟩
    have hbd : B.drop k = b :: B.drop (k + 1) := by
      rw [List.drop_eq_getElem_cons (by omega)]
      rw [List.getElem?_eq_getElem (by omega)] at hb
      rw [Option.some.inj hb]
    have ht : os = L.drop (k + 1) := by
      have := congrArg List.tail h
      simpa using this
    have ih := readyF_eq hl os (k + 1) ht
    rw [hbd, readyF, List.length_cons, List.range'_succ, List.filter_cons, ih]
    have e1 : B.toArray.getD k true = b := by
      rw [List.getElem?_eq_getElem (by omega)] at hb
      rw [← Option.some.inj hb]
      simp [Array.getD, show k < B.length by omega]
    have e2 : ((L.toArray[k]?).map (fun o => o.after.all fun e => !Region.binds md e || B.toArray.getD e.on false)).getD false = depsIn md B o := by
      rw [List.getElem?_toArray, hk, depsIn_eq]
      rfl
    rw [e1, e2]
theorem ready_all {L : List Oper} {B : List Bool} {rs : List Nat} (hl : B.length = L.length) (h : readyF md B 0 L B = rs) : Region.ready md L.toArray B.toArray = rs := by
  have := readyF_eq (md := md) hl L 0 rfl
  rw [List.drop_zero, h] at this
  rw [← this]
  unfold Region.ready
  rw [List.size_toArray, List.range_eq_range']
/-- May it be taken first? (B: the list behind it.) -/
def freeP (md : Region.Mode) (ops : Array Oper) (oi : Oper) (i : Nat) : List Oper → List Bool → Bool
  | o :: os, b :: bs => (b || oi.apart ops o || o.after.toList.any fun e => Region.binds md e && e.on == i) && freeP md ops oi i os bs
  | _, _ => true
theorem freeP_at {ops : Array Oper} {oi : Oper} {i : Nat} : ∀ {L : List Oper} {B : List Bool}, freeP md ops oi i L B = true → ∀ (j : Nat) (o : Oper) (b : Bool), L[j]? = some o → B[j]? = some b → (b || oi.apart ops o || o.after.toList.any fun e => Region.binds md e && e.on == i) = true
  | o :: os, b :: bs, h, 0, _, _, h1, h2 => by
    cases h1
    cases h2
    rw [freeP, Bool.and_eq_true] at h
    exact h.1
  | o :: os, b :: bs, h, j + 1, o', b', h1, h2 => by
    rw [freeP, Bool.and_eq_true] at h
    exact freeP_at h.2 j o' b' (by simpa using h1) (by simpa using h2)
  | [], _, _, _, _, _, h1, _ => by simp at h1
  | _ :: _, [], _, _, _, _, _, h2 => by simp at h2
theorem free_of {L : List Oper} {B : List Bool} {i : Nat} {o : Oper} (hi : L[i]? = some o) (h : freeP md L.toArray o i L (B.set i true) = true) : Region.free md L.toArray B.toArray i = true := by
  unfold Region.free
  rw [List.getElem?_toArray, hi]
  simp only [List.all_eq_true, List.mem_range, List.size_toArray]
  intro j hj
  by_cases hji : j = i
  · simp [hji]
  obtain ⟨oj, hoj⟩ : ∃ x, L[j]? = some x := ⟨_, List.getElem?_eq_getElem hj⟩
  cases hb : B[j]? with
  | none =>
    have : B.toArray.getD j true = true := by
      have := List.getElem?_eq_none_iff.1 hb
      simp [Array.getD, show ¬ j < B.length by omega]
    simp [this]
  | some b =>
    have h1 := freeP_at h j oj b hoj (by rw [List.getElem?_set_ne (Ne.symm hji)]; exact hb)
    have h2 : B.toArray.getD j true = b := by
      obtain ⟨hlt, he⟩ := List.getElem?_eq_some_iff.1 hb
      simp [Array.getD, hlt, he]
    rw [h2, List.getElem?_toArray, hoj]
    cases b
    · simp only [Bool.false_or, Bool.or_eq_true, Bool.or_false] at h1 ⊢
      rcases h1 with h1 | h1
      · exact .inr (.inr h1)
      · refine .inr (.inl ?_)
        rw [← Array.any_toList]
        exact h1
    · simp

def freeI (md : Region.Mode) (L : List Oper) (B : List Bool) (i : Nat) : Bool := match L[i]? with
  | some oi => freeP md L.toArray oi i L (B.set i true)
  | none => false
theorem freeI_of {L : List Oper} {B : List Bool} {i : Nat} {o : Oper} (hi : L[i]? = some o) (h : freeI md L B i = true) : Region.free md L.toArray B.toArray i = true := by
  unfold freeI at h
  rw [hi] at h
  exact free_of hi h
def readyI (md : Region.Mode) (L : List Oper) (B : List Bool) (i : Nat) : Bool := match L[i]? with
  | some oi => readyP md B i oi
  | none => false
theorem readyI_of {L : List Oper} {B : List Bool} {i : Nat} {o : Oper} (hi : L[i]? = some o) (h : readyI md L B i = true) : (Region.ready md L.toArray B.toArray).contains i = true := by
  unfold readyI at h
  rw [hi] at h
  exact ready_of hi h
/-- 'wpAnyH', of lists. -/
def wpAnyL (P : Program) (L : List Oper) (Q : Exit → Act → World → Prop) (S : World → Prop) (fuel : Nat) (B : List Bool) (a : Act) (w : World) : Prop := wpAnyH P .any L.toArray Q S fuel B.toArray a w
variable {L : List Oper} {B : List Bool} {a : Act} {w : World} {fuel : Nat}
theorem take_oneL {i d : Nat} {oi : Oper} {v : Value} (hi : L[i]? = some oi)
    (hs : Hid (Region.noSelect L.toArray = true)) (hf : freeI .any L B i = true) (hr : readyI .any L B i = true)
    (hQ : ∀ c a w, Q (.panic c) (a.put (some d) v) w → Q (.panic c) a w) (hd : oi.dst = some d) (hw : Region.wanted oi (yielded L.toArray a.tmps) = true) (hy : ∀ w, S w → (execOp a.eval oi).run P w = .ok (.value v) w) (hS : S w)
    (h : wpAnyL P L Q S fuel (B.set i true) (a.put (some d) v) w) : wpAnyL P L Q S (fuel + 1) B a w :=
  take_one (by rw [List.getElem?_toArray]; exact hi) hs.out (freeI_of hi hf) (readyI_of hi hr) hQ hd hw hy hS (by rw [List.setIfInBounds_toArray]; exact h)
/-- take_oneL, told in one row. -/
theorem oneA (i d : Nat) {oi : Oper} {v : Value} (hs : Hid (Region.noSelect L.toArray = true)) (hi : L[i]? = some oi := by first | rfl | (simp only [List.getElem?_cons_succ, List.getElem?_cons_zero]; rfl))
    (hf : freeI .any L B i = true := by kernel_rfl) (hr : readyI .any L B i = true := by kernel_rfl) (hQ : ∀ c a w, Q (.panic c) (a.put (some d) v) w → Q (.panic c) a w := by exact fun _ _ _ h => h)
    (hd : oi.dst = some d := by rfl) (hw : Region.wanted oi (yielded L.toArray a.tmps) = true := by rfl) (hy : ∀ w, S w → (execOp a.eval oi).run P w = .ok (.value v) w := by (intro w' hSw; (try dsimp only at hSw); go_simp; (try with_reducible rfl)))
    (hS : S w := by assumption) (h : wpAnyL P L Q S fuel (B.set i true) (a.put (some d) v) w) : wpAnyL P L Q S (fuel + 1) B a w :=
  take_oneL hi hs hf hr hQ hd hw hy hS h
theorem take_skipL {i d : Nat} {oi : Oper} (hi : L[i]? = some oi)
    (hs : Hid (Region.noSelect L.toArray = true)) (hf : freeI .any L B i = true) (hr : readyI .any L B i = true)
    (hQ : ∀ c a w, Q (.panic c) (a.put (some d) undef) w → Q (.panic c) a w) (hd : oi.dst = some d) (hw : Region.wanted oi (yielded L.toArray a.tmps) = false) (hS : S w)
    (h : wpAnyL P L Q S fuel (B.set i true) (a.put (some d) undef) w) : wpAnyL P L Q S (fuel + 1) B a w :=
  take_skip (by rw [List.getElem?_toArray]; exact hi) hs.out (freeI_of hi hf) (readyI_of hi hr) hQ hd hw hS (by rw [List.setIfInBounds_toArray]; exact h)
theorem wpAnyL_done (hl : B.length = L.length) (hr : readyF .any B 0 L B = []) (h : Q .normal a w) (fuel : Nat) : wpAnyL P L Q S fuel B a w := wpAnyH_done (ready_all hl hr) h fuel
def AllReadyL (P : Program) (L : List Oper) (Q : Exit → Act → World → Prop) (S : World → Prop) (fuel : Nat) (B : List Bool) (a : Act) (w : World) (rs : List Nat) : Prop := AllReadyH P .any L.toArray Q S fuel B.toArray a w rs
theorem AllReadyL.nil : AllReadyL P L Q S fuel B a w [] := AllReadyH.nil
theorem AllReadyL.cons {i : Nat} {o : Oper} {rs : List Nat} (ho : L[i]? = some o)
    (h : ∀ K' : Act → World → Prop, Shut (∀ a w, S w → (S w → wpAnyL P L Q S fuel (B.set i true) a w) → K' a w) → if Region.wanted o (yielded L.toArray a.tmps) = true then Oper.wp P o a w K' Q else K' (a.put o.dst undef) w)
    (hs : AllReadyL P L Q S fuel B a w rs) : AllReadyL P L Q S fuel B a w (i :: rs) :=
  AllReadyH.cons (by rw [List.getElem?_toArray]; exact ho) (fun K hK => h K fun a w hS hW => hK.out a w hS fun hS => by have := hW hS; unfold wpAnyL at this; rw [List.setIfInBounds_toArray]; exact this) hs
theorem wpAnyL_ready {rs : List Nat} (hl : B.length = L.length) (hr : readyF .any B 0 L B = rs) (hne : rs ≠ [])
    (h : AllReadyL P L Q S fuel B a w rs) : wpAnyL P L Q S (fuel + 1) B a w := wpAnyH_ready (ready_all hl hr) hne h
theorem wp_region_list {id : Nat} (hm : P.follows .mixedOrders = true) (hB : List.replicate L.length false = B) (hs : Region.noSelect L.toArray = true) (hS : S w.drew)
    (h : Hid (Region.noSelect L.toArray = true) → S w.drew → wpAnyL P L Q S L.length B a w.drew) : (Code.region id L.toArray true).wp P Q a w := by
  subst hB
  refine wp_region_held_drew hm hS fun h0 => ?_
  have := h (Lib.hid hs) h0
  unfold wpAnyL at this
  rw [List.size_toArray, ← List.toArray_replicate]
  exact this
end
end Go.Proofs.YtoghojgajpfkkaaGreatDoor

/-
  What is asked of a node's items, or kids, one by one.
-/
set_option linter.unusedVariables false
namespace Go.Proofs.YtoghojgajpfkkaaGreatDoor
open Go.RowKit

theorem run_store_func {P : Program} {w : World} {a : Addr} {m : Mode} (fn : Fn) (x y : Array Value) : (store a (.func fn x y) m).run P w = stored P w a (.func fn x y) m := run_store P w a _ m rfl
attribute [local go_sem] run_store_func
/-- A value that holds these bytes is handed back; what was there is as it was. -/
def Gave (w : World) (xs : Bytes) (e : Ending) (w' : World) : Prop := ∃ A c, e = .returned (.slice A xs.length c) ∧ Src w' (.slice A xs.length c) xs ∧ Only (w.heap.size ≤ ·) w w'
section
variable (w : World) (f : Bool) (A B : Option Addr) (n c m d k : Nat) (x : Nd) (g : Int)

set_option maxHeartbeats 1600000 in
theorem itemRoom_c (i : It) (hN : Nod w x f (.slice A n c) (.slice B m d)) (hg : Gens w) (hs : Small x) (hx : x.its[k]? = some i) :
    Calls Tryz.prog 88 #[.agg #[.bool f, .slice A n c, .slice B m d], .int .i64 g, .int .i64 k] w (Told w (.int .i64 (irm g i))) := by
  have HO : Hid (Only (w.heap.size ≤ ·) w (w.alloc (.cells #[.bool f, .slice A n c, .slice B m d] 28))) := (Only.refl _ w).alloc (fun _ h => h) _
  have hkn : k < n := by rw [hN.2.1.len]; exact (List.getElem?_eq_some_iff.1 hx).1
  have hcn := hN.2.1.cap
  obtain ⟨b, off, y, P, Q, p, q, rfl, hb, hy, q0, q1, q2, q3, _, _⟩ := its_at (hN.2.1.later HO.out) hkn
  obtain rfl : y = i := Option.some.inj (hy.symm.trans hx)
  have hsm := hs.2.2.1 y (List.mem_of_getElem? hx)
  have HG := Lib.hid (hg.later HO.out)
  obtain ⟨xs, ys, s, r⟩ := y
  have HR : Hid (∀ W, Gens W → Calls Tryz.prog 105 #[.int .i64 g, .agg #[.slice P xs.length p, .slice Q ys.length q, .int .i64 s, .int .i64 r]] W (Told W (.int .i64 (irm g (xs, ys, s, r))))) := fun W hW => Room_c W P Q _ p _ q s r g hW (Nat.le_trans hsm.1 (by omega)) (Nat.le_trans hsm.2 (by omega))
  simp only at q0 q1 q2 q3
  clear hN hx hy hsm hs hg
  generalize irm g (xs, ys, s, r) = z at HR ⊢
  go_enter Tryz.func88, Tryz.ntmps88
  go_wp2_with (go_at_call 105; (with_reducible refine (HR.out _ HG.out).mono ?_); rintro e w1 ⟨rfl, ho⟩; (replace HO := Lib.hid (on_new HO.out ho)); clear ho)
  go_ret
  exact ⟨rfl, HO.out⟩

set_option maxHeartbeats 1600000 in
theorem kidRoom_c (i : Kd) (hN : Nod w x f (.slice A n c) (.slice B m d)) (hg : Gens w) (hs : Small x) (hx : x.kds[k]? = some i) :
    Calls Tryz.prog 91 #[.agg #[.bool f, .slice A n c, .slice B m d], .int .i64 g, .int .i64 k] w (Told w (.int .i64 (krm g i))) := by
  have HO : Hid (Only (w.heap.size ≤ ·) w (w.alloc (.cells #[.bool f, .slice A n c, .slice B m d] 28))) := (Only.refl _ w).alloc (fun _ h => h) _
  have hkn : k < m := by rw [hN.2.2.len]; exact (List.getElem?_eq_some_iff.1 hx).1
  have hcn := hN.2.2.cap
  obtain ⟨b, off, y, P, p, rfl, hb, hy, q0, q1, _⟩ := kds_at (hN.2.2.later HO.out) hkn
  obtain rfl : y = i := Option.some.inj (hy.symm.trans hx)
  have hsm := hs.2.2.2 y (List.mem_of_getElem? hx)
  have HG := Lib.hid (hg.later HO.out)
  obtain ⟨xs, r⟩ := y
  have HR : Hid (∀ W, Gens W → Calls Tryz.prog 107 #[.int .i64 g, .slice P xs.length p] W (Told W (.int .i64 (krm g (xs, r))))) := fun W hW => KidRoom_c W P _ p g hW (Nat.le_trans hsm (by omega))
  simp only at q0 q1
  clear hN hx hy hsm hs hg
  generalize krm g (xs, r) = z at HR ⊢
  go_enter Tryz.func91, Tryz.ntmps91
  go_wp2_with (go_at_call 107; (with_reducible refine (HR.out _ HG.out).mono ?_); rintro e w1 ⟨rfl, ho⟩; (replace HO := Lib.hid (on_new HO.out ho)); clear ho)
  go_ret
  exact ⟨rfl, HO.out⟩

set_option maxHeartbeats 1600000 in
theorem itemKey_c (i : It) (hN : Nod w x f (.slice A n c) (.slice B m d)) (hx : x.its[k]? = some i) :
    Calls Tryz.prog 87 #[.agg #[.bool f, .slice A n c, .slice B m d], .int .i64 k] w (Gave w i.1) := by
  have HO : Hid (Only (w.heap.size ≤ ·) w (w.alloc (.cells #[.bool f, .slice A n c, .slice B m d] 28))) := (Only.refl _ w).alloc (fun _ h => h) _
  have hkn : k < n := by rw [hN.2.1.len]; exact (List.getElem?_eq_some_iff.1 hx).1
  have hcn := hN.2.1.cap
  obtain ⟨b, off, y, P, Q, p, q, rfl, hb, hy, q0, q1, q2, q3, s1, _⟩ := its_at (hN.2.1.later HO.out) hkn
  obtain rfl : y = i := Option.some.inj (hy.symm.trans hx)
  obtain ⟨xs, ys, s, r⟩ := y
  have HS := Lib.hid s1
  simp only at q0 q1 q2 q3
  clear hN hx hy s1
  go_enter Tryz.func87, Tryz.ntmps87
  go_wp2
  go_ret
  exact ⟨_, _, rfl, HS.out, HO.out⟩

set_option maxHeartbeats 1600000 in
theorem kidKey_c (i : Kd) (hN : Nod w x f (.slice A n c) (.slice B m d)) (hx : x.kds[k]? = some i) :
    Calls Tryz.prog 90 #[.agg #[.bool f, .slice A n c, .slice B m d], .int .i64 k] w (Gave w i.1) := by
  have HO : Hid (Only (w.heap.size ≤ ·) w (w.alloc (.cells #[.bool f, .slice A n c, .slice B m d] 28))) := (Only.refl _ w).alloc (fun _ h => h) _
  have hkn : k < m := by rw [hN.2.2.len]; exact (List.getElem?_eq_some_iff.1 hx).1
  have hcn := hN.2.2.cap
  obtain ⟨b, off, y, P, p, rfl, hb, hy, q0, q1, s1⟩ := kds_at (hN.2.2.later HO.out) hkn
  obtain rfl : y = i := Option.some.inj (hy.symm.trans hx)
  obtain ⟨xs, r⟩ := y
  have HS := Lib.hid s1
  simp only at q0 q1
  clear hN hx hy s1
  go_enter Tryz.func90, Tryz.ntmps90
  go_wp2
  go_ret
  exact ⟨_, _, rfl, HS.out, HO.out⟩

/-- What is asked of a leaf, and of a branch. -/
def leafEnt (N : Value) (n : Nat) : Value := .agg #[.int .i64 n, .func (.func 87) #[N] #[], .func (.func 88) #[N] #[], .func (.func 89) #[N] #[]]
def kidsEnt (N : Value) (n : Nat) : Value := .agg #[.int .i64 n, .func (.func 90) #[N] #[], .func (.func 91) #[N] #[], .func (.func 92) #[N] #[]]
set_option maxHeartbeats 1600000 in
theorem entries_leaf : Calls Tryz.prog 60 #[.agg #[.bool true, .slice A n c, .slice B m d]] w (Told w (leafEnt (.agg #[.bool true, .slice A n c, .slice B m d]) n)) := by
  have hmf : ∀ (fn : Fn) (first cap : Array Value) (w : World), (Instr.makeFunc fn first cap).run Tryz.prog w = .ok (.func fn first cap) w := fun _ _ _ _ => rfl
  go_enter Tryz.func60, Tryz.ntmps60
  go_wp2
  exact bodyPost_ret (v := leafEnt (.agg #[.bool true, .slice A n c, .slice B m d]) n) (by simp [results, Tryz.results60, go_sem, leafEnt]) rfl ⟨rfl, ((Only.refl _ w).alloc (fun _ h => h) _).alloc (fun _ h => h) _⟩
set_option maxHeartbeats 1600000 in
theorem entries_kids : Calls Tryz.prog 60 #[.agg #[.bool false, .slice A n c, .slice B m d]] w (Told w (kidsEnt (.agg #[.bool false, .slice A n c, .slice B m d]) m)) := by
  have hmf : ∀ (fn : Fn) (first cap : Array Value) (w : World), (Instr.makeFunc fn first cap).run Tryz.prog w = .ok (.func fn first cap) w := fun _ _ _ _ => rfl
  go_enter Tryz.func60, Tryz.ntmps60
  go_wp2
  exact bodyPost_ret (v := kidsEnt (.agg #[.bool false, .slice A n c, .slice B m d]) m) (by simp [results, Tryz.results60, go_sem, kidsEnt]) rfl ⟨rfl, ((Only.refl _ w).alloc (fun _ h => h) _).alloc (fun _ h => h) _⟩
end
end Go.Proofs.YtoghojgajpfkkaaGreatDoor

/-
  Room, Fits, Low, middle of the program.
-/
set_option linter.unusedVariables false
namespace Go.Proofs.YtoghojgajpfkkaaGreatDoor
open Go.RowKit
attribute [local go_sem] run_store_func

theorem rms_leaf {x : Nd} (g : Int) (h : x.leaf = true) : rms g x = x.its.map (irm g) := by unfold rms; rw [if_pos h]
theorem rms_kids {x : Nd} (g : Int) (h : x.leaf = false) : rms g x = x.kds.map (krm g) := by unfold rms; rw [if_neg (by rw [h]; decide)]
section
variable (w : World) (A B : Option Addr) (n c m d : Nat) (x : Nd) (g : Int)

set_option maxRecDepth 100000 in
set_option maxHeartbeats 3200000 in
theorem Room_entries_leaf (hf : x.leaf = true) (hN : Nod w x true (.slice A n c) (.slice B m d)) (hg : Gens w) (hs : Small x) :
    Calls Tryz.prog 94 #[.int .i64 g, .agg #[.bool true, .slice A n c, .slice B m d]] w (Told w (.int .i64 (nrm g x))) := by
  have HO : Hid (Only (w.heap.size ≤ ·) w (w.alloc (.cells #[.bool true, .slice A n c, .slice B m d] 28))) := (Only.refl _ w).alloc (fun _ h => h) _
  have hlen : n = (rms g x).length := by rw [rms_leaf g hf, List.length_map]; exact hN.2.1.len
  have hn1 : n ≤ 1000 := by rw [hN.2.1.len]; exact hs.1
  obtain ⟨l, hl⟩ : ∃ l, l = rms g x := ⟨_, rfl⟩
  have HS : Hid (nrm g x = l.sum) := by show _ = _; unfold nrm; rw [hl]
  have HE := Lib.hid (hs.each g)
  rw [← hl] at hlen HE
  have HLEN := Lib.hid hlen
  have HR : Hid (∀ (k : Nat), k < n → ∃ a, l[k]? = some a ∧ 0 ≤ a ∧ a ≤ 20000 ∧ ∀ W, Only (w.heap.size ≤ ·) w W → Calls Tryz.prog 88 #[.agg #[.bool true, .slice A n c, .slice B m d], .int .i64 g, .int .i64 k] W (Told W (.int .i64 a))) := by
    intro k hk
    obtain ⟨i, hx⟩ : ∃ i, x.its[k]? = some i := ⟨_, List.getElem?_eq_getElem (by rw [← hN.2.1.len]; exact hk)⟩
    have e : l[k]? = some (irm g i) := by rw [hl, rms_leaf g hf, List.getElem?_map, hx]; rfl
    have hr := HE.out _ (List.mem_of_getElem? e)
    exact ⟨_, e, hr.1, hr.2, fun W hW => itemRoom_c W true A B n c m d k x g _ (hN.later hW) (hg.later hW) hs hx⟩
  clear hlen hN hg hs HE hf
  rw [HS.out]
  clear HS hl
  go_enter Tryz.func94, Tryz.ntmps94
  go_wp2_with (go_at_call 60; (with_reducible refine (entries_leaf _ _ _ _ _ _ _).mono ?_); rintro e w1 ⟨rfl, ho⟩; have HO1 := Lib.hid (on_new HO.out ho); have HB := Lib.hid (Blk.new w1 110 [.int .i64 n, .func (.func 87) #[.agg #[.bool true, .slice A n c, .slice B m d]] #[], .func (.func 88) #[.agg #[.bool true, .slice A n c, .slice B m d]] #[], .func (.func 89) #[.agg #[.bool true, .slice A n c, .slice B m d]] #[]]); have HO2 := Lib.hid (HO1.out.alloc (fun _ h => h) (.cells #[.int .i64 n, .func (.func 87) #[.agg #[.bool true, .slice A n c, .slice B m d]] #[], .func (.func 88) #[.agg #[.bool true, .slice A n c, .slice B m d]] #[], .func (.func 89) #[.agg #[.bool true, .slice A n c, .slice B m d]] #[]] 110)); clear ho; unfold leafEnt)
  go_loopw [6, 12] (fun s i wr => ∃ (k : Nat) (t : Int), k ≤ n ∧ 0 ≤ t ∧ t ≤ k * 20000 ∧ s = .int .i64 t ∧ i = .int .i64 k ∧ Hid (t = pre l k) ∧ Only ((w1.alloc (.cells #[.int .i64 n, .func (.func 87) #[.agg #[.bool true, .slice A n c, .slice B m d]] #[], .func (.func 88) #[.agg #[.bool true, .slice A n c, .slice B m d]] #[], .func (.func 89) #[.agg #[.bool true, .slice A n c, .slice B m d]] #[]] 110)).heap.size ≤ ·) (w1.alloc (.cells #[.int .i64 n, .func (.func 87) #[.agg #[.bool true, .slice A n c, .slice B m d]] #[], .func (.func 88) #[.agg #[.bool true, .slice A n c, .slice B m d]] #[], .func (.func 89) #[.agg #[.bool true, .slice A n c, .slice B m d]] #[]] 110)) wr) (fun _ i _ => n - (intOf i).toNat)
  case atStart => exact ⟨0, 0, Nat.zero_le _, by omega, by omega, rfl, rfl, rfl, Only.refl _ _⟩
  case round =>
    obtain ⟨k, t, hk, ht0, ht, rfl, rfl, HT, ho⟩ := hrel
    have HOR := Lib.hid (on_new HO2.out ho)
    have HBR := Lib.hid (HB.out.later ho)
    have HOL := Lib.hid ho
    clear ho HB
    by_cases hlt : k < n
    · obtain ⟨a, hla, ha0, ha1, hcall⟩ := HR.out k hlt
      have HX := Lib.hid (pre_succ hla)
      have HC := Lib.hid hcall
      clear hla hcall
      obtain ⟨b0, b1, b2, b3⟩ := HBR.out.four
      go_wp2_with (go_at_call 88; (with_reducible refine (HC.out _ HOR.out).mono ?_); rintro e w3 ⟨rfl, ho⟩; have HO3 := Lib.hid (on_new HOL.out ho); clear ho)
      go_roundw
      case rel => exact ⟨k + 1, t + a, by omega, by omega, by omega, rfl, by go_num, Lib.hid (by rw [HX.out, ← HT.out]), HO3.out⟩
      case measure => simp [intOf]; omega
    · obtain rfl : k = n := by omega
      go_wp2
      go_ret
      exact ⟨by rw [HT.out, HLEN.out, pre_all]; rfl, HOR.out⟩

set_option maxRecDepth 100000 in
set_option maxHeartbeats 3200000 in
theorem Room_entries_kids (hf : x.leaf = false) (hN : Nod w x false (.slice A n c) (.slice B m d)) (hg : Gens w) (hs : Small x) :
    Calls Tryz.prog 94 #[.int .i64 g, .agg #[.bool false, .slice A n c, .slice B m d]] w (Told w (.int .i64 (nrm g x))) := by
  have HO : Hid (Only (w.heap.size ≤ ·) w (w.alloc (.cells #[.bool false, .slice A n c, .slice B m d] 28))) := (Only.refl _ w).alloc (fun _ h => h) _
  have hlen : m = (rms g x).length := by rw [rms_kids g hf, List.length_map]; exact hN.2.2.len
  have hn1 : m ≤ 1000 := by rw [hN.2.2.len]; exact hs.2.1
  obtain ⟨l, hl⟩ : ∃ l, l = rms g x := ⟨_, rfl⟩
  have HS : Hid (nrm g x = l.sum) := by show _ = _; unfold nrm; rw [hl]
  have HE := Lib.hid (hs.each g)
  rw [← hl] at hlen HE
  have HLEN := Lib.hid hlen
  have HR : Hid (∀ (k : Nat), k < m → ∃ a, l[k]? = some a ∧ 0 ≤ a ∧ a ≤ 20000 ∧ ∀ W, Only (w.heap.size ≤ ·) w W → Calls Tryz.prog 91 #[.agg #[.bool false, .slice A n c, .slice B m d], .int .i64 g, .int .i64 k] W (Told W (.int .i64 a))) := by
    intro k hk
    obtain ⟨i, hx⟩ : ∃ i, x.kds[k]? = some i := ⟨_, List.getElem?_eq_getElem (by rw [← hN.2.2.len]; exact hk)⟩
    have e : l[k]? = some (krm g i) := by rw [hl, rms_kids g hf, List.getElem?_map, hx]; rfl
    have hr := HE.out _ (List.mem_of_getElem? e)
    exact ⟨_, e, hr.1, hr.2, fun W hW => kidRoom_c W false A B n c m d k x g _ (hN.later hW) (hg.later hW) hs hx⟩
  clear hlen hN hg hs HE hf
  rw [HS.out]
  clear HS hl
  go_enter Tryz.func94, Tryz.ntmps94
  go_wp2_with (go_at_call 60; (with_reducible refine (entries_kids _ _ _ _ _ _ _).mono ?_); rintro e w1 ⟨rfl, ho⟩; have HO1 := Lib.hid (on_new HO.out ho); have HB := Lib.hid (Blk.new w1 110 [.int .i64 m, .func (.func 90) #[.agg #[.bool false, .slice A n c, .slice B m d]] #[], .func (.func 91) #[.agg #[.bool false, .slice A n c, .slice B m d]] #[], .func (.func 92) #[.agg #[.bool false, .slice A n c, .slice B m d]] #[]]); have HO2 := Lib.hid (HO1.out.alloc (fun _ h => h) (.cells #[.int .i64 m, .func (.func 90) #[.agg #[.bool false, .slice A n c, .slice B m d]] #[], .func (.func 91) #[.agg #[.bool false, .slice A n c, .slice B m d]] #[], .func (.func 92) #[.agg #[.bool false, .slice A n c, .slice B m d]] #[]] 110)); clear ho; unfold kidsEnt)
  go_loopw [6, 12] (fun s i wr => ∃ (k : Nat) (t : Int), k ≤ m ∧ 0 ≤ t ∧ t ≤ k * 20000 ∧ s = .int .i64 t ∧ i = .int .i64 k ∧ Hid (t = pre l k) ∧ Only ((w1.alloc (.cells #[.int .i64 m, .func (.func 90) #[.agg #[.bool false, .slice A n c, .slice B m d]] #[], .func (.func 91) #[.agg #[.bool false, .slice A n c, .slice B m d]] #[], .func (.func 92) #[.agg #[.bool false, .slice A n c, .slice B m d]] #[]] 110)).heap.size ≤ ·) (w1.alloc (.cells #[.int .i64 m, .func (.func 90) #[.agg #[.bool false, .slice A n c, .slice B m d]] #[], .func (.func 91) #[.agg #[.bool false, .slice A n c, .slice B m d]] #[], .func (.func 92) #[.agg #[.bool false, .slice A n c, .slice B m d]] #[]] 110)) wr) (fun _ i _ => m - (intOf i).toNat)
  case atStart => exact ⟨0, 0, Nat.zero_le _, by omega, by omega, rfl, rfl, rfl, Only.refl _ _⟩
  case round =>
    obtain ⟨k, t, hk, ht0, ht, rfl, rfl, HT, ho⟩ := hrel
    have HOR := Lib.hid (on_new HO2.out ho)
    have HBR := Lib.hid (HB.out.later ho)
    have HOL := Lib.hid ho
    clear ho HB
    by_cases hlt : k < m
    · obtain ⟨a, hla, ha0, ha1, hcall⟩ := HR.out k hlt
      have HX := Lib.hid (pre_succ hla)
      have HC := Lib.hid hcall
      clear hla hcall
      obtain ⟨b0, b1, b2, b3⟩ := HBR.out.four
      go_wp2_with (go_at_call 91; (with_reducible refine (HC.out _ HOR.out).mono ?_); rintro e w3 ⟨rfl, ho⟩; have HO3 := Lib.hid (on_new HOL.out ho); clear ho)
      go_roundw
      case rel => exact ⟨k + 1, t + a, by omega, by omega, by omega, rfl, by go_num, Lib.hid (by rw [HX.out, ← HT.out]), HO3.out⟩
      case measure => simp [intOf]; omega
    · obtain rfl : k = m := by omega
      go_wp2
      go_ret
      exact ⟨by rw [HT.out, HLEN.out, pre_all]; rfl, HOR.out⟩

theorem Room_n (f : Bool) (hN : Nod w x f (.slice A n c) (.slice B m d)) (hg : Gens w) (hs : Small x) :
    Calls Tryz.prog 94 #[.int .i64 g, .agg #[.bool f, .slice A n c, .slice B m d]] w (Told w (.int .i64 (nrm g x))) := by
  obtain hf := hN.1
  cases f
  · exact Room_entries_kids w A B n c m d x g hf.symm hN hg hs
  · exact Room_entries_leaf w A B n c m d x g hf.symm hN hg hs

set_option maxHeartbeats 3200000 in
theorem Fits_n (f : Bool) (b : Bool) (hb : nfit g x = b) (hN : Nod w x f (.slice A n c) (.slice B m d)) (hg : Gens w) (hs : Small x) :
    Calls Tryz.prog 62 #[.int .i64 g, .agg #[.bool f, .slice A n c, .slice B m d]] w (Told w (.bool b)) := by
  have HO : Hid (Only (w.heap.size ≤ ·) w (w.alloc (.cells #[.bool f, .slice A n c, .slice B m d] 28))) := (Only.refl _ w).alloc (fun _ h => h) _
  have HG := Lib.hid (hg.later HO.out)
  obtain ⟨r, hr⟩ : ∃ r, r = nrm g x := ⟨_, rfl⟩
  obtain ⟨v, hv⟩ : ∃ v, v = tr g 248 240 240 := ⟨_, rfl⟩
  have HR : Hid (∀ W, Only (w.heap.size ≤ ·) w W → Calls Tryz.prog 94 #[.int .i64 g, .agg #[.bool f, .slice A n c, .slice B m d]] W (Told W (.int .i64 r))) := fun W hW => by rw [hr]; exact Room_n W A B n c m d x g f (hN.later hW) (hg.later hW) hs
  have HV : Hid (∀ W, Gens W → Calls Tryz.prog 95 #[.int .i64 g] W (Told W (.int .i64 v))) := fun W hW => by rw [hv]; exact Cap_c W g hW
  unfold nfit at hb
  rw [← hr, ← hv] at hb
  have HB := Lib.hid hb
  clear hb hr hv hN hg hs
  go_enter Tryz.func62, Tryz.ntmps62
  go_wp2_with (first
    | (go_at_call 94; (with_reducible refine (HR.out _ HO.out).mono ?_); rintro e w1 ⟨rfl, ho⟩; (replace HG := Lib.hid (HG.out.later ho)); (replace HO := Lib.hid (on_new HO.out ho)); clear ho)
    | (go_at_call 95; (with_reducible refine (HV.out _ HG.out).mono ?_); rintro e w2 ⟨rfl, ho⟩; (replace HO := Lib.hid (on_new HO.out ho)); clear ho))
  go_ret
  exact ⟨by rw [← HB.out]; rfl, HO.out⟩

theorem Blk.three {w : World} {g : Nat} {t : TypeId} {a b c : Value} (h : Blk w g t [a, b, c]) : w.cell? ⟨g, 0, none⟩ = some a ∧ w.cell? ⟨g, 1, none⟩ = some b ∧ w.cell? ⟨g, 2, none⟩ = some c := ⟨h.cell 0, h.cell 1, h.cell 2⟩
end
end Go.Proofs.YtoghojgajpfkkaaGreatDoor

/-
  A node as the program, and as the document, has it: one made of the other.
-/
set_option linter.unusedVariables false
namespace Go.Proofs.YtoghojgajpfkkaaGreatDoor
open Go.RowKit

theorem info_RI : (Tryz.prog.info? 63).map (fun i => (i.zero, i.size, i.bytes)) = some (some zI, 4, 64) := by kernel_rfl
theorem info_RK : (Tryz.prog.info? 65).map (fun i => (i.zero, i.size, i.bytes)) = some (some zK, 2, 32) := by kernel_rfl
/-- A node comes back. -/
def GaveN (w : World) (x : Nd) (e : Ending) (w' : World) : Prop := ∃ A n c B m d, e = .returned (.agg #[.bool x.leaf, .slice A n c, .slice B m d]) ∧ Nod w' x x.leaf (.slice A n c) (.slice B m d) ∧ Only (w.heap.size ≤ ·) w w'

theorem take_one_more {α : Type} {C : List α} {k z : Nat} {cs : List α} (hz : cs.length = z) (hp : 0 < z) (h : ∀ j u, cs[j]? = some u → C[k * z + j]? = some u) : C.take ((k + 1) * z) = C.take (k * z) ++ cs := by
  have h0 := h (z - 1) cs[z - 1] (List.getElem?_eq_getElem (by omega))
  have hlen := (List.getElem?_eq_some_iff.1 h0).1
  apply List.ext_getElem?
  intro i
  rw [Nat.succ_mul, List.getElem?_take, List.getElem?_append, List.length_take, Nat.min_eq_left (by omega), List.getElem?_take]
  by_cases h1 : i < k * z
  · rw [if_pos (by omega), if_pos h1, if_pos h1]
  · rw [if_neg h1]
    by_cases h2 : i < k * z + z
    · rw [if_pos h2, List.getElem?_eq_getElem (by omega : i - k * z < cs.length)]
      have := h (i - k * z) cs[i - k * z] (List.getElem?_eq_getElem (by omega))
      rwa [show k * z + (i - k * z) = i by omega] at this
    · rw [if_neg h2, List.getElem?_eq_none (by omega)]

theorem its_step {w : World} {A : Option Addr} {n c k : Nat} {l : List It} {C : List Value} (hd : Den (itE.At w) l C) (hr : RawV 4 w (.slice A n c) n C) (hn : n = l.length) (hk : k < n) :
    ∃ (b off : Nat) (P Q : Option Addr) (a p e q : Nat) (s r : Int), A = some ⟨b, off, none⟩ ∧ b < w.heap.size ∧ w.cell? ⟨b, off + k * 4, none⟩ = some (.slice P a p) ∧ w.cell? ⟨b, off + k * 4 + 1, none⟩ = some (.slice Q e q) ∧ w.cell? ⟨b, off + k * 4 + 2, none⟩ = some (.int .i64 s) ∧ w.cell? ⟨b, off + k * 4 + 3, none⟩ = some (.int .i64 r) ∧
      C.take ((k + 1) * 4) = C.take (k * 4) ++ [.slice P a p, .slice Q e q, .int .i64 s, .int .i64 r] := by
  subst hn
  obtain ⟨cs, ⟨P, p, Q, q, e, _⟩, hg⟩ := hd.get (z := 4) (fun _ _ => itE.len) (List.getElem?_eq_getElem hk)
  obtain ⟨A', c', e2, hl, hraw, _⟩ := hr
  simp only [Value.slice.injEq, true_and] at e2
  obtain ⟨rfl, rfl⟩ := e2
  obtain ⟨b, off, e3, hb, hc⟩ := hraw (by rw [hl]; omega)
  have ht := take_one_more (z := 4) (by rw [e]; rfl) (by omega) hg
  subst e
  exact ⟨b, off, P, Q, _, p, _, q, _, _, e3, hb, hc _ _ (hg 0 _ rfl), hc _ _ (hg 1 _ rfl), hc _ _ (hg 2 _ rfl), hc _ _ (hg 3 _ rfl), ht⟩
theorem kds_step {w : World} {A : Option Addr} {n c k : Nat} {l : List Kd} {C : List Value} (hd : Den (kdE.At w) l C) (hr : RawV 2 w (.slice A n c) n C) (hn : n = l.length) (hk : k < n) :
    ∃ (b off : Nat) (P : Option Addr) (a p : Nat) (r : Int), A = some ⟨b, off, none⟩ ∧ b < w.heap.size ∧ w.cell? ⟨b, off + k * 2, none⟩ = some (.slice P a p) ∧ w.cell? ⟨b, off + k * 2 + 1, none⟩ = some (.int .i64 r) ∧
      C.take ((k + 1) * 2) = C.take (k * 2) ++ [.slice P a p, .int .i64 r] := by
  subst hn
  obtain ⟨cs, ⟨P, p, e, _⟩, hg⟩ := hd.get (z := 2) (fun _ _ => kdE.len) (List.getElem?_eq_getElem hk)
  obtain ⟨A', c', e2, hl, hraw, _⟩ := hr
  simp only [Value.slice.injEq, true_and] at e2
  obtain ⟨rfl, rfl⟩ := e2
  obtain ⟨b, off, e3, hb, hc⟩ := hraw (by rw [hl]; omega)
  have ht := take_one_more (z := 2) (by rw [e]; rfl) (by omega) hg
  subst e
  exact ⟨b, off, P, _, p, _, e3, hb, hc _ _ (hg 0 _ rfl), hc _ _ (hg 1 _ rfl), ht⟩

theorem own_on {w w' : World} {F : Nat → Prop} {B z n : Nat} {t : TypeId} {v : Value} {C : List Value} (h : w.ownsRow B t z v n C) (ho : Only F w w') (hF : ∀ k, v.ownBlock = some k → ¬ F k) : w'.ownsRow B t z v n C := by
  refine ⟨h.1, ?_⟩
  rcases h.2 with h2 | ⟨g, cap, cur, rfl, hb, hg, h3⟩
  · exact .inl h2
  · exact .inr ⟨g, cap, cur, rfl, hb, (ho.block g (hF g rfl)).trans hg, h3⟩
theorem Blk.tri {w : World} {g : Nat} {t : TypeId} {a b c : Value} (h : Blk w g t [a, b, c]) : w.cell? ⟨g, 0, none⟩ = some a ∧ w.cell? ⟨g, 1, none⟩ = some b ∧ w.cell? ⟨g, 2, none⟩ = some c := ⟨h.cell 0, h.cell 1, h.cell 2⟩
theorem Blk.melt3 {w : World} {g : Nat} {t : TypeId} {cs : List Value} (h : Blk w g t cs) : w.frozen? ⟨g, 0, none⟩ = false ∧ w.frozen? ⟨g, 1, none⟩ = false ∧ w.frozen? ⟨g, 2, none⟩ = false := ⟨h.frozen 0, h.frozen 1, h.frozen 2⟩

/-- Under way: from world wm on only the node's own block, and new ones, have changed; the node is this; the row that grows is that. -/
def Under (wm wr : World) (bo : Nat) (td te : TypeId) (z : Nat) (out : List Value) (v : Value) (k : Nat) (C : List Value) : Prop :=
  Only (fun j => j = bo ∨ wm.heap.size ≤ j) wm wr ∧ Blk wr bo td out ∧ wr.ownsRow wm.heap.size te z v k C
theorem Under.blk {wm wr w' : World} {bo : Nat} {td te : TypeId} {z : Nat} {out : List Value} {v : Value} {k : Nat} {C : List Value} {o1 o2 : Obj} (h : Under wm wr bo td te z out v k C) (hbo : bo < wm.heap.size) (hg : ((wr.alloc o1).alloc o2).grownBy w' v.ownBlock) : Blk w' bo td out := by
  have h2 := (h.2.1.alloc o1).alloc o2
  exact (hg.block bo h2.lt fun e => by have := (World.ownsRow.lt h.2.2 bo e.symm).1; omega).trans h2
theorem Under.step {wm wr w' : World} {bo : Nat} {td te : TypeId} {z : Nat} {out : List Value} {v v' : Value} {k k' : Nat} {C C' : List Value} {o1 o2 : Obj} (j : Nat) (h : Under wm wr bo td te z out v k C) (hbo : bo < wm.heap.size) (hg : ((wr.alloc o1).alloc o2).grownBy w' v.ownBlock)
    (ho : w'.ownsRow wm.heap.size te z v' k' C') : Under wm (w'.setCell ⟨bo, j, none⟩ v') bo td te z (out.set j v') v' k' C' := by
  have hs := h.1.size
  have h3 : Only (fun j => j = bo ∨ wm.heap.size ≤ j) wm w' := Only.grown ((h.1.alloc (fun _ h => .inr h) o1).alloc (fun _ h => .inr h) o2) hg (fun _ h => .inr h) (fun g hg => .inr (World.ownsRow.lt h.2.2 g hg).1)
  refine ⟨h3.setCell (p := ⟨bo, j, none⟩) (.inl rfl) v', (h.blk hbo hg).set_ j v', ?_⟩
  refine own_on ho (F := (· = bo)) ((Only.refl (· = bo) w').setCell (p := ⟨bo, j, none⟩) rfl v') fun k hk e => ?_
  have := (World.ownsRow.lt ho k hk).1
  omega

set_option maxRecDepth 100000 in
set_option maxHeartbeats 12800000 in
theorem NOld_c (w : World) (A B : Option Addr) (n c m d : Nat) (f : Bool) (x : Nd) (hN : Nod w x f (.slice A n c) (.slice B m d)) (hs : x.its.length ≤ 1000 ∧ x.kds.length ≤ 1000 ∧ True) :
    Calls Tryz.prog 9 #[.agg #[.bool f, .slice A n c, .slice B m d]] w (GaveN w x) := by
  obtain ⟨i1, hi0, hz0, hz1, hz2⟩ := info_parts info_RI
  have HI1 := Lib.hid (And.intro hi0 (And.intro hz0 (And.intro hz1 hz2)))
  clear hi0 hz0 hz1 hz2
  obtain ⟨i2, hi0, hz0, hz1, hz2⟩ := info_parts info_RK
  have HI2 := Lib.hid (And.intro hi0 (And.intro hz0 (And.intro hz1 hz2)))
  clear hi0 hz0 hz1 hz2
  have hc1 := hN.2.1.cap
  have hc2 := hN.2.2.cap
  have hn1 : n ≤ 1000 := by rw [hN.2.1.len]; exact hs.1
  have hm1 : m ≤ 1000 := by rw [hN.2.2.len]; exact hs.2.1
  have HNL := Lib.hid hN.2.1.len
  have HML := Lib.hid hN.2.2.len
  have HFL := Lib.hid hN.1
  obtain ⟨C, hC⟩ := hN.2.1.srw
  obtain ⟨D, hD⟩ := hN.2.2.srw
  have HS1 : Hid (∀ W, Only (w.heap.size ≤ ·) w W → Den (itE.At W) x.its C ∧ RawV 4 W (.slice A n c) n C) := fun W hW => by
    have h := hC W (hW.mono fun _ h => .inr h)
    exact ⟨h.1, by have h2 := h.2; rw [← HNL.out] at h2; exact h2⟩
  have HS2 : Hid (∀ W, Only (w.heap.size ≤ ·) w W → Den (kdE.At W) x.kds D ∧ RawV 2 W (.slice B m d) m D) := fun W hW => by
    have h := hD W (hW.mono fun _ h => .inr h)
    exact ⟨h.1, by have h2 := h.2; rw [← HML.out] at h2; exact h2⟩
  clear hC hD hN hs
  obtain ⟨wm, hwm⟩ : ∃ wm, wm = (((w.alloc (.cells #[.bool f, .slice A n c, .slice B m d] 28)).alloc (.cells #[.bool false, .slice none 0 0, .slice none 0 0] 35)).alloc (.cells #[.bool f, .slice none 0 0, .slice none 0 0] 35)) := ⟨_, rfl⟩
  have HOM1 : Hid (Only (w.heap.size ≤ ·) w wm) := Lib.hid (by rw [hwm]; exact (((Only.refl _ w).alloc (fun _ h => h) _).alloc (fun _ h => h) _).alloc (fun _ h => h) _)
  have HZ : Hid (wm.heap.size = w.heap.size + 3) := Lib.hid (by rw [hwm]; simp)
  have HBO1 : Hid (w.heap.size + 1 + 1 < wm.heap.size) := Lib.hid (by rw [HZ.out]; omega)
  have HBX : Hid (Blk wm w.heap.size 28 [.bool f, .slice A n c, .slice B m d]) := Lib.hid (by rw [hwm]; exact ((Blk.new w 28 _).alloc _).alloc _)
  have HBR : Hid (Blk wm (w.heap.size + 1) 35 [.bool false, .slice none 0 0, .slice none 0 0]) := Lib.hid (by
    rw [hwm]
    have := (Blk.new (w.alloc (.cells #[.bool f, .slice A n c, .slice B m d] 28)) 35 [.bool false, .slice none 0 0, .slice none 0 0]).alloc (.cells #[.bool f, .slice none 0 0, .slice none 0 0] 35)
    simpa using this)
  have HBT : Hid (Blk wm (w.heap.size + 1 + 1) 35 [.bool f, .slice none 0 0, .slice none 0 0]) := Lib.hid (by
    rw [hwm]
    have := Blk.new ((w.alloc (.cells #[.bool f, .slice A n c, .slice B m d] 28)).alloc (.cells #[.bool false, .slice none 0 0, .slice none 0 0] 35)) 35 [.bool f, .slice none 0 0, .slice none 0 0]
    simpa using this)
  have HWM := Lib.hid hwm
  clear hwm
  go_enter Tryz.func9, Tryz.ntmps9
  go_wp2
  rw [← HWM.out]
  clear HWM
  go_loopw [14] (fun i wr => ∃ (k : Nat) (R : Option Addr) (t : Nat), k ≤ n ∧ i = .int .i64 k ∧ Hid (Under wm wr (w.heap.size + 1 + 1) 35 63 4 [.bool f, .slice R k t, .slice none 0 0] (.slice R k t) k (C.take (k * 4)))) (fun i _ => n - (intOf i).toNat)
  case atStart => exact ⟨0, none, 0, Nat.zero_le _, rfl, Lib.hid ⟨Only.refl _ _, HBT.out, by rw [Nat.zero_mul, List.take_zero]; exact World.ownsRow_nil _ _ _ _⟩⟩
  case round =>
    obtain ⟨k, R, t, hk, rfl, HU⟩ := hrel
    by_cases hlt : k < n
    · have hOw : Only (w.heap.size ≤ ·) w wr := HOM1.out.trans (HU.out.1.mono fun j hj => by have := HBO1.out; have := HOM1.out.size; omega)
      obtain ⟨b, off, P, Q, a, p, e, q, s, r, rfl, hb, q0, q1, q2, q3, htk⟩ := its_step (HS1.out _ hOw).1 (HS1.out _ hOw).2 HNL.out hlt
      have HT := Lib.hid htk
      have hkc : (k : Int) < (n : Int) := by omega
      obtain ⟨o0, o1, o2⟩ := (HU.out.2.1.alloc (.cells #[.slice P a p, .slice Q e q, .int .i64 s, .int .i64 r] 44)).tri
      have HB : Hid (Blk ((wr.alloc (.cells #[.slice P a p, .slice Q e q, .int .i64 s, .int .i64 r] 44)).alloc (.cells #[.slice P a p, .slice Q e q, .int .i64 s, .int .i64 r] 63)) (wr.heap.size + 1) 63 [.slice P a p, .slice Q e q, .int .i64 s, .int .i64 r]) := by
        have := Blk.new (wr.alloc (.cells #[.slice P a p, .slice Q e q, .int .i64 s, .int .i64 r] 44)) 63 [.slice P a p, .slice Q e q, .int .i64 s, .int .i64 r]
        exact Lib.hid (by simpa using this)
      clear htk hOw
      go_wp2_with (at_builtin; refine wpList_append_own _ rfl (.tmp 19) (.tmp 21) 32 rfl wm.heap.size 63 i1 zI 4 64 Tryz.underlying32 HI1.out.1 HI1.out.2.1 HI1.out.2.2.1 HI1.out.2.2.2 (by rfl) (by omega) (.slice R k t) k (C.take (k * 4)) rfl ((World.ownsRow.alloc HU.out.2.2 _).alloc _) ⟨wr.heap.size + 1, 0, none⟩ 1 1 [.slice P a p, .slice Q e q, .int .i64 s, .int .i64 r] rfl rfl (fun j u hu => by rw [Addr.add_lit, HB.out.cell, Nat.zero_add]; exact hu) (by simp [Value.oneCell']) (by simp only [maxLen]; omega) (by omega) (by have := HU.out.1.size; simp; omega) ?_; intro v' w' ho' hg' _; (obtain ⟨R2, t2, rfl, _⟩ := raw_of_own ho'); have HB' := Lib.hid (Under.blk HU.out HBO1.out hg'); (obtain ⟨oo0, oo1, oo2⟩ := HB'.out.tri); (obtain ⟨fo0, fo1, fo2⟩ := HB'.out.melt3); have HW := Lib.hid (Under.step 1 HU.out HBO1.out hg' ho'); clear ho' hg')
      go_roundw
      case rel => exact ⟨k + 1, R2, t2, by omega, by go_num, Lib.hid (by rw [HT.out]; exact HW.out)⟩
      case measure => simp [intOf]; omega
    · obtain rfl : n = k := by omega
      have HU1 := HU
      have HOM2 : Hid (Only (w.heap.size ≤ ·) w wr) := Lib.hid (HOM1.out.trans (HU.out.1.mono fun j hj => by have := HBO1.out; have := HOM1.out.size; omega))
      have HBO2 : Hid (w.heap.size + 1 + 1 < wr.heap.size) := Lib.hid (Nat.lt_of_lt_of_le HBO1.out HU.out.1.size)
      have HBX2 := Lib.hid (HBX.out.only HU.out.1 fun h => by have := HBO1.out; omega)
      obtain ⟨x0, x1, x2⟩ := HBX2.out.tri
      have HBR2 := Lib.hid (HBR.out.only HU.out.1 fun h => by have := HBO1.out; omega)
      obtain ⟨o0, o1, o2⟩ := HU.out.2.1.tri
      clear HU HBX HBR HBT
      have hkm : ¬ (n : Int) < (n : Int) := by omega
      go_wp2
      obtain ⟨wn, hwn⟩ : ∃ wn, wn = wr := ⟨_, rfl⟩
      subst hwn
      obtain ⟨R1, hR1⟩ : ∃ R1, R1 = R := ⟨_, rfl⟩
      subst hR1
      obtain ⟨t1, ht1⟩ : ∃ t1, t1 = t := ⟨_, rfl⟩
      subst ht1
      clear hkm o0 o1 o2 x0 x1 x2
      go_loopw [28] (fun i wr => ∃ (k : Nat) (R : Option Addr) (t : Nat), k ≤ m ∧ i = .int .i64 k ∧ Hid (Under wn wr (w.heap.size + 1 + 1) 35 65 2 [.bool f, .slice R1 n t1, .slice R k t] (.slice R k t) k (D.take (k * 2)))) (fun i _ => m - (intOf i).toNat)
      case atStart => exact ⟨0, none, 0, Nat.zero_le _, rfl, Lib.hid ⟨Only.refl _ _, HU1.out.2.1, by rw [Nat.zero_mul, List.take_zero]; exact World.ownsRow_nil _ _ _ _⟩⟩
      case round =>
        obtain ⟨k, R, t, hk, rfl, HU⟩ := hrel
        by_cases hlt : k < m
        · have hOw : Only (w.heap.size ≤ ·) w wr := HOM2.out.trans (HU.out.1.mono fun j hj => by have := HBO2.out; have := HOM2.out.size; omega)
          obtain ⟨b, off, P, a, p, r, rfl, hb, q0, q1, htk⟩ := kds_step (HS2.out _ hOw).1 (HS2.out _ hOw).2 HML.out hlt
          have HT := Lib.hid htk
          have hkc : (k : Int) < (m : Int) := by omega
          obtain ⟨o0, o1, o2⟩ := (HU.out.2.1.alloc (.cells #[.slice P a p, .int .i64 r] 67)).tri
          have HB : Hid (Blk ((wr.alloc (.cells #[.slice P a p, .int .i64 r] 67)).alloc (.cells #[.slice P a p, .int .i64 r] 65)) (wr.heap.size + 1) 65 [.slice P a p, .int .i64 r]) := by
            have := Blk.new (wr.alloc (.cells #[.slice P a p, .int .i64 r] 67)) 65 [.slice P a p, .int .i64 r]
            exact Lib.hid (by simpa using this)
          clear htk hOw
          go_wp2_with (at_builtin; refine wpList_append_own _ rfl (.tmp 33) (.tmp 35) 33 rfl wn.heap.size 65 i2 zK 2 32 Tryz.underlying33 HI2.out.1 HI2.out.2.1 HI2.out.2.2.1 HI2.out.2.2.2 (by rfl) (by omega) (.slice R k t) k (D.take (k * 2)) rfl ((World.ownsRow.alloc HU.out.2.2 _).alloc _) ⟨wr.heap.size + 1, 0, none⟩ 1 1 [.slice P a p, .int .i64 r] rfl rfl (fun j u hu => by rw [Addr.add_lit, HB.out.cell, Nat.zero_add]; exact hu) (by simp [Value.oneCell']) (by simp only [maxLen]; omega) (by omega) (by have := HU.out.1.size; simp; omega) ?_; intro v' w' ho' hg' _; (obtain ⟨R2, t2, rfl, _⟩ := raw_of_own ho'); have HB' := Lib.hid (Under.blk HU.out HBO2.out hg'); (obtain ⟨oo0, oo1, oo2⟩ := HB'.out.tri); (obtain ⟨fo0, fo1, fo2⟩ := HB'.out.melt3); have HW := Lib.hid (Under.step 2 HU.out HBO2.out hg' ho'); clear ho' hg')
          go_roundw
          case rel => exact ⟨k + 1, R2, t2, by omega, by go_num, Lib.hid (by rw [HT.out]; exact HW.out)⟩
          case measure => simp [intOf]; omega
        · obtain rfl : m = k := by omega
          have hO2 : Only (w.heap.size ≤ ·) w wr := HOM2.out.trans (HU.out.1.mono fun j hj => by have := HBO2.out; have := HOM2.out.size; omega)
          have HBR3 := Lib.hid (HBR2.out.only HU.out.1 fun h => by have := HBO2.out; omega)
          obtain ⟨z0, z1, z2⟩ := HBR3.out.tri
          obtain ⟨fz0, fz1, fz2⟩ := HBR3.out.melt3
          obtain ⟨o0, o1, o2⟩ := HU.out.2.1.tri
          have hkm : ¬ (m : Int) < (m : Int) := by omega
          have HO2 := Lib.hid hO2
          clear hO2
          go_wp2
          obtain ⟨Wf, hWf⟩ : ∃ Wf, Wf = (((wr.setCell ⟨w.heap.size + 1, 0, none⟩ (.bool f)).setCell ⟨w.heap.size + 1, 1, none⟩ (.slice R1 n t1)).setCell ⟨w.heap.size + 1, 2, none⟩ (.slice R m t)) := ⟨_, rfl⟩
          have hBf : Blk Wf (w.heap.size + 1) 35 [.bool f, .slice R1 n t1, .slice R m t] := by rw [hWf]; exact ((HBR3.out.set_ 0 _).set_ 1 _).set_ 2 _
          have hOs : Only (· = w.heap.size + 1) wr Wf := by rw [hWf]; exact (((Only.refl (· = w.heap.size + 1) _).setCell (p := ⟨w.heap.size + 1, 0, none⟩) rfl _).setCell (p := ⟨w.heap.size + 1, 1, none⟩) rfl _).setCell (p := ⟨w.heap.size + 1, 2, none⟩) rfl _
          rw [← hWf]
          clear hWf z0 z1 z2 o0 o1 o2
          obtain ⟨y0, y1, y2⟩ := hBf.tri
          have hOf : Only (w.heap.size ≤ ·) w Wf := HO2.out.trans (hOs.mono fun j hj => by omega)
          refine bodyPost_ret (v := .agg #[.bool f, .slice R1 n t1, .slice R m t]) (by simp [results, Tryz.results9, go_sem, y0, y1, y2]) rfl ?_
          have hz := HZ.out
          have hs2 := HU.out.1.size
          have hw1 := HU1.out.2.2
          have hw2 := HU.out.2.2
          have s1 := HS1.out Wf hOf
          have s2 := HS2.out Wf hOf
          have e1 : C.take (n * 4) = C := List.take_of_length_le (by obtain ⟨_, _, _, h2, _⟩ := s1.2; rw [h2]; exact Nat.le_refl _)
          have e2 : D.take (m * 2) = D := List.take_of_length_le (by obtain ⟨_, _, _, h2, _⟩ := s2.2; rw [h2]; exact Nat.le_refl _)
          rw [e1] at hw1
          rw [e2] at hw2
          have hb1 := World.ownsRow.lt hw1
          have hb2 := World.ownsRow.lt hw2
          have hbo2 := HBO2.out
          have g1 := own_on (own_on hw1 HU.out.1 fun j hj e => by have := hb1 j hj; omega) hOs fun j hj e => by have := hb1 j hj; omega
          have g2 := own_on hw2 hOs fun j hj e => by have := hb2 j hj; omega
          obtain rfl := HFL.out
          exact ⟨R1, n, t1, R, m, t, rfl, ⟨rfl, Own.rw_ (E := itE) (t := 63) (B := wm.heap.size) ⟨HNL.out, C, s1.1, g1⟩, Own.rw_ (E := kdE) (t := 65) (B := wn.heap.size) ⟨HML.out, D, s2.1, g2⟩⟩, hOf⟩
end Go.Proofs.YtoghojgajpfkkaaGreatDoor

/-
  Same of the document, and of the program, where both are the same.
-/
set_option linter.unusedVariables false
namespace Go.Proofs.YtoghojgajpfkkaaGreatDoor
open Go.RowKit

theorem its_both {w : World} {A A2 : Option Addr} {n c c2 : Nat} {l : List It} (h : Its w (.slice A n c) l) (h2 : Its w (.slice A2 n c2) l) : (∀ (k : Nat), k < n → ∃ (b off b2 off2 : Nat) (P Q P2 Q2 : Option Addr) (t p e q p2 q2 : Nat) (s r : Int), A = some ⟨b, off, none⟩ ∧ A2 = some ⟨b2, off2, none⟩ ∧
    (∀ W, Only (w.heap.size ≤ ·) w W → W.cell? ⟨b, off + k * 4, none⟩ = some (.slice P t p) ∧ W.cell? ⟨b, off + k * 4 + 1, none⟩ = some (.slice Q e q) ∧ W.cell? ⟨b, off + k * 4 + 2, none⟩ = some (.int .i64 s) ∧ W.cell? ⟨b, off + k * 4 + 3, none⟩ = some (.int .i64 r) ∧
      W.cell? ⟨b2, off2 + k * 4, none⟩ = some (.slice P2 t p2) ∧ W.cell? ⟨b2, off2 + k * 4 + 1, none⟩ = some (.slice Q2 e q2) ∧ W.cell? ⟨b2, off2 + k * 4 + 2, none⟩ = some (.int .i64 s) ∧ W.cell? ⟨b2, off2 + k * 4 + 3, none⟩ = some (.int .i64 r)) ∧
    (∀ W, Only (w.heap.size ≤ ·) w W → Calls Tryz.prog 23 #[.agg #[.slice P t p, .slice Q e q, .int .i64 s, .int .i64 r], .agg #[.slice P2 t p2, .slice Q2 e q2, .int .i64 s, .int .i64 r]] W (Told W (.bool true)))) := by
  intro k hk
  obtain ⟨b, off, y, P, Q, p, q, e1, hb, hy, q0, q1, q2, q3, s1, s2⟩ := its_at h hk
  obtain ⟨b2, off2, y2, P2, Q2, p2, q2', e2, hb2, hy2, r0, r1, r2, r3, t1, t2⟩ := its_at h2 hk
  obtain rfl : y = y2 := Option.some.inj (hy.symm.trans hy2)
  obtain ⟨xs, ys, s, r⟩ := y
  have g : ∀ W, Only (w.heap.size ≤ ·) w W → ∀ j v, w.cell? ⟨b, j, none⟩ = some v → W.cell? ⟨b, j, none⟩ = some v := fun W hW j v hv => (hW.cell (p := ⟨b, j, none⟩) (Nat.not_le.2 hb)).trans hv
  have g2 : ∀ W, Only (w.heap.size ≤ ·) w W → ∀ j v, w.cell? ⟨b2, j, none⟩ = some v → W.cell? ⟨b2, j, none⟩ = some v := fun W hW j v hv => (hW.cell (p := ⟨b2, j, none⟩) (Nat.not_le.2 hb2)).trans hv
  exact ⟨b, off, b2, off2, P, Q, P2, Q2, xs.length, p, ys.length, q, p2, q2', s, r, e1, e2, fun W hW => ⟨g W hW _ _ q0, g W hW _ _ q1, g W hW _ _ q2, g W hW _ _ q3, g2 W hW _ _ r0, g2 W hW _ _ r1, g2 W hW _ _ r2, g2 W hW _ _ r3⟩,
    fun W hW => rSame_c W P Q P2 Q2 _ p _ q _ p2 _ q2' s r s r xs ys xs ys true (s1.later hW) (s2.later hW) (t1.later hW) (t2.later hW) (decide_eq_true ⟨rfl, rfl, rfl, rfl⟩)⟩

theorem its_both' {w : World} {A A2 : Option Addr} {n c c2 : Nat} {l : List It} (h : Its w (.slice A n c) l) (h2 : Its w (.slice A2 n c2) l) : (∀ (k : Nat), k < n → ∃ (b off b2 off2 : Nat) (P Q P2 Q2 : Option Addr) (t p e q p2 q2 : Nat) (s r : Int), A = some ⟨b, off, none⟩ ∧ A2 = some ⟨b2, off2, none⟩ ∧
    (∀ W, Only (w.heap.size ≤ ·) w W → W.cell? ⟨b, off + k * 4, none⟩ = some (.slice P t p) ∧ W.cell? ⟨b, off + k * 4 + 1, none⟩ = some (.slice Q e q) ∧ W.cell? ⟨b, off + k * 4 + 2, none⟩ = some (.int .i64 s) ∧ W.cell? ⟨b, off + k * 4 + 3, none⟩ = some (.int .i64 r) ∧
      W.cell? ⟨b2, off2 + k * 4, none⟩ = some (.slice P2 t p2) ∧ W.cell? ⟨b2, off2 + k * 4 + 1, none⟩ = some (.slice Q2 e q2) ∧ W.cell? ⟨b2, off2 + k * 4 + 2, none⟩ = some (.int .i64 s) ∧ W.cell? ⟨b2, off2 + k * 4 + 3, none⟩ = some (.int .i64 r)) ∧
    (∀ W, Only (w.heap.size ≤ ·) w W → Calls Tryz.prog 45 #[.agg #[.slice P t p, .slice Q e q, .int .i64 s, .int .i64 r], .agg #[.slice P2 t p2, .slice Q2 e q2, .int .i64 s, .int .i64 r]] W (Told W (.bool true)))) := by
  intro k hk
  obtain ⟨b, off, y, P, Q, p, q, e1, hb, hy, q0, q1, q2, q3, s1, s2⟩ := its_at h hk
  obtain ⟨b2, off2, y2, P2, Q2, p2, q2', e2, hb2, hy2, r0, r1, r2, r3, t1, t2⟩ := its_at h2 hk
  obtain rfl : y = y2 := Option.some.inj (hy.symm.trans hy2)
  obtain ⟨xs, ys, s, r⟩ := y
  have g : ∀ W, Only (w.heap.size ≤ ·) w W → ∀ j v, w.cell? ⟨b, j, none⟩ = some v → W.cell? ⟨b, j, none⟩ = some v := fun W hW j v hv => (hW.cell (p := ⟨b, j, none⟩) (Nat.not_le.2 hb)).trans hv
  have g2 : ∀ W, Only (w.heap.size ≤ ·) w W → ∀ j v, w.cell? ⟨b2, j, none⟩ = some v → W.cell? ⟨b2, j, none⟩ = some v := fun W hW j v hv => (hW.cell (p := ⟨b2, j, none⟩) (Nat.not_le.2 hb2)).trans hv
  exact ⟨b, off, b2, off2, P, Q, P2, Q2, xs.length, p, ys.length, q, p2, q2', s, r, e1, e2, fun W hW => ⟨g W hW _ _ q0, g W hW _ _ q1, g W hW _ _ q2, g W hW _ _ q3, g2 W hW _ _ r0, g2 W hW _ _ r1, g2 W hW _ _ r2, g2 W hW _ _ r3⟩,
    fun W hW => Same_c W P Q P2 Q2 _ p _ q _ p2 _ q2' s r s r xs ys xs ys true (s1.later hW) (s2.later hW) (t1.later hW) (t2.later hW) (decide_eq_true ⟨rfl, rfl, rfl, rfl⟩)⟩

theorem kds_both {w : World} {B B2 : Option Addr} {m d d2 : Nat} {l : List Kd} (h : Kds w (.slice B m d) l) (h2 : Kds w (.slice B2 m d2) l) : (∀ (k : Nat), k < m → ∃ (b off b2 off2 : Nat) (P P2 : Option Addr) (t p p2 : Nat) (r : Int) (xs : Bytes), B = some ⟨b, off, none⟩ ∧ B2 = some ⟨b2, off2, none⟩ ∧ t = xs.length ∧
    (∀ W, Only (w.heap.size ≤ ·) w W → W.cell? ⟨b, off + k * 2, none⟩ = some (.slice P t p) ∧ W.cell? ⟨b, off + k * 2 + 1, none⟩ = some (.int .i64 r) ∧ W.cell? ⟨b2, off2 + k * 2, none⟩ = some (.slice P2 t p2) ∧ W.cell? ⟨b2, off2 + k * 2 + 1, none⟩ = some (.int .i64 r)) ∧
    (∀ W, Only (w.heap.size ≤ ·) w W → Src W (.slice P t p) xs ∧ Src W (.slice P2 t p2) xs)) := by
  intro k hk
  obtain ⟨b, off, y, P, p, e1, hb, hy, q0, q1, s1⟩ := kds_at h hk
  obtain ⟨b2, off2, y2, P2, p2, e2, hb2, hy2, r0, r1, t1⟩ := kds_at h2 hk
  obtain rfl : y = y2 := Option.some.inj (hy.symm.trans hy2)
  obtain ⟨xs, r⟩ := y
  have g : ∀ W, Only (w.heap.size ≤ ·) w W → ∀ j v, w.cell? ⟨b, j, none⟩ = some v → W.cell? ⟨b, j, none⟩ = some v := fun W hW j v hv => (hW.cell (p := ⟨b, j, none⟩) (Nat.not_le.2 hb)).trans hv
  have g2 : ∀ W, Only (w.heap.size ≤ ·) w W → ∀ j v, w.cell? ⟨b2, j, none⟩ = some v → W.cell? ⟨b2, j, none⟩ = some v := fun W hW j v hv => (hW.cell (p := ⟨b2, j, none⟩) (Nat.not_le.2 hb2)).trans hv
  exact ⟨b, off, b2, off2, P, P2, xs.length, p, p2, r, xs, e1, e2, rfl, fun W hW => ⟨g W hW _ _ q0, g W hW _ _ q1, g2 W hW _ _ r0, g2 W hW _ _ r1⟩, fun W hW => ⟨s1.later hW, t1.later hW⟩⟩

set_option maxRecDepth 100000 in
set_option maxHeartbeats 12800000 in
theorem DSame_eq (w : World) (f : Bool) (A B A2 B2 : Option Addr) (n c m d c2 d2 : Nat) (x : Nd) (h : Nod w x f (.slice A n c) (.slice B m d)) (h2 : Nod w x f (.slice A2 n c2) (.slice B2 m d2)) (hn : n ≤ 1000) (hm : m ≤ 1000) :
    Calls Tryz.prog 8 #[.agg #[.bool f, .slice A n c, .slice B m d], .agg #[.bool f, .slice A2 n c2, .slice B2 m d2]] w (Told w (.bool true)) := by
  have HO : Hid (Only (w.heap.size ≤ ·) w ((w.alloc (.cells #[.bool f, .slice A n c, .slice B m d] 35)).alloc (.cells #[.bool f, .slice A2 n c2, .slice B2 m d2] 35))) := ((Only.refl _ w).alloc (fun _ h => h) _).alloc (fun _ h => h) _
  have HI : Hid (Blk ((w.alloc (.cells #[.bool f, .slice A n c, .slice B m d] 35)).alloc (.cells #[.bool f, .slice A2 n c2, .slice B2 m d2] 35)) w.heap.size 35 [.bool f, .slice A n c, .slice B m d]) := (Blk.new w 35 _).alloc _
  have HJ : Hid (Blk ((w.alloc (.cells #[.bool f, .slice A n c, .slice B m d] 35)).alloc (.cells #[.bool f, .slice A2 n c2, .slice B2 m d2] 35)) (w.heap.size + 1) 35 [.bool f, .slice A2 n c2, .slice B2 m d2]) := Lib.hid (by
    have := Blk.new (w.alloc (.cells #[.bool f, .slice A n c, .slice B m d] 35)) 35 [.bool f, .slice A2 n c2, .slice B2 m d2]
    simpa using this)
  obtain ⟨W0, hW0⟩ : ∃ W0, W0 = ((w.alloc (.cells #[.bool f, .slice A n c, .slice B m d] 35)).alloc (.cells #[.bool f, .slice A2 n c2, .slice B2 m d2] 35)) := ⟨_, rfl⟩
  have HW0 := Lib.hid hW0
  rw [← hW0] at HO HI HJ
  clear hW0
  have HIT := Lib.hid (its_both h.2.1 h2.2.1)
  have HKD := Lib.hid (kds_both h.2.2 h2.2.2)
  have hc1 := h.2.1.cap
  have hc2 := h2.2.1.cap
  have hd1 := h.2.2.cap
  have hd2 := h2.2.2.cap
  have HCT : Hid (∀ W v u (xs : Bytes), Src W v xs → Src W u xs → Calls Tryz.prog 24 #[v, u] W (Told W (.int .i64 0))) := fun W v u xs h1 h2 => by
    have := rCompare_c W v u xs xs h1 h2
    rwa [cmp_self] at this
  clear h h2
  go_enter Tryz.func8, Tryz.ntmps8
  go_wp2
  rw [← HW0.out]
  clear HW0
  go_loopw [5] (fun i wr => ∃ (k : Nat), k ≤ n ∧ i = .int .i64 k ∧ Only (W0.heap.size ≤ ·) W0 wr) (fun i _ => n - (intOf i).toNat)
  case atStart => exact ⟨0, Nat.zero_le _, rfl, Only.refl _ _⟩
  case round =>
    obtain ⟨k, hk, rfl, ho⟩ := hrel
    have HOR := Lib.hid (on_new HO.out ho)
    have HOL := Lib.hid ho
    by_cases hlt : k < n
    · obtain ⟨b, off, b2, off2, P, Q, P2, Q2, t, p, e, q, p2, q2, s, r, rfl, rfl, hcells, hcall⟩ := HIT.out k hlt
      have HC := Lib.hid hcall
      clear hcall
      have HCS := Lib.hid hcells
      clear hcells
      have KP : Hid (∀ w' : World, Only (W0.heap.size ≤ ·) W0 w' → (w'.cell? ⟨w.heap.size, 1, none⟩ = some (.slice (some ⟨b, off, none⟩) n c) ∧ w'.cell? ⟨w.heap.size + 1, 1, none⟩ = some (.slice (some ⟨b2, off2, none⟩) n c2) ∧ w'.cell? ⟨b, off + k * 4, none⟩ = some (.slice P t p) ∧ w'.cell? ⟨b, off + k * 4 + 1, none⟩ = some (.slice Q e q) ∧ w'.cell? ⟨b, off + k * 4 + 2, none⟩ = some (.int .i64 s) ∧ w'.cell? ⟨b, off + k * 4 + 3, none⟩ = some (.int .i64 r) ∧ w'.cell? ⟨b2, off2 + k * 4, none⟩ = some (.slice P2 t p2) ∧ w'.cell? ⟨b2, off2 + k * 4 + 1, none⟩ = some (.slice Q2 e q2) ∧ w'.cell? ⟨b2, off2 + k * 4 + 2, none⟩ = some (.int .i64 s) ∧ w'.cell? ⟨b2, off2 + k * 4 + 3, none⟩ = some (.int .i64 r))) := fun W' hW => ⟨((HI.out.later hW).tri).2.1, ((HJ.out.later hW).tri).2.1, HCS.out W' (on_new HO.out hW)⟩
      obtain ⟨x1, x2, x3, x4, x5, x6, x7, x8, x9, x10⟩ := KP.out _ HOL.out
      have j1 : (0 : Int) ≤ (k : Int) := by omega
      have j2 : (k : Int) < (n : Int) := by omega
      clear ho
      go_wp2_with (fail)
      have HOZ : Hid (Only (W0.heap.size ≤ ·) W0 wr.drew) := HOL.out.drew
      refine wp_region_held_drew (S := (fun w' => (w'.cell? ⟨w.heap.size, 1, none⟩ = some (.slice (some ⟨b, off, none⟩) n c) ∧ w'.cell? ⟨w.heap.size + 1, 1, none⟩ = some (.slice (some ⟨b2, off2, none⟩) n c2) ∧ w'.cell? ⟨b, off + k * 4, none⟩ = some (.slice P t p) ∧ w'.cell? ⟨b, off + k * 4 + 1, none⟩ = some (.slice Q e q) ∧ w'.cell? ⟨b, off + k * 4 + 2, none⟩ = some (.int .i64 s) ∧ w'.cell? ⟨b, off + k * 4 + 3, none⟩ = some (.int .i64 r) ∧ w'.cell? ⟨b2, off2 + k * 4, none⟩ = some (.slice P2 t p2) ∧ w'.cell? ⟨b2, off2 + k * 4 + 1, none⟩ = some (.slice Q2 e q2) ∧ w'.cell? ⟨b2, off2 + k * 4 + 2, none⟩ = some (.int .i64 s) ∧ w'.cell? ⟨b2, off2 + k * 4 + 3, none⟩ = some (.int .i64 r)))) (by kernel_rfl) (KP.out _ HOZ.out) (fun hHeld => ?_)
      refine take_one (i := 0) (d := 37) (oi := ?_) (v := ?_) ?_ (by kernel_rfl) (by kernel_rfl) (by kernel_rfl) (fun _ _ _ h => h) ?_ ?_ ?_ (by assumption) ?_
      case refine_3 => (simp only [List.getElem?_toArray, List.getElem?_cons_zero]; rfl)
      case refine_4 => rfl
      case refine_5 => rfl
      case refine_6 => (intro w' hSw; (try dsimp only at hSw); go_simp; (try with_reducible rfl))
      simp only [Act.put, List.setIfInBounds_toArray, List.set_cons_zero, List.set_cons_succ]
      refine take_one (i := 1) (d := 38) (oi := ?_) (v := ?_) ?_ (by kernel_rfl) (by kernel_rfl) (by kernel_rfl) (fun _ _ _ h => h) ?_ ?_ ?_ (by assumption) ?_
      case refine_3 => (simp only [List.getElem?_toArray, List.getElem?_cons_succ, List.getElem?_cons_zero]; rfl)
      case refine_4 => rfl
      case refine_5 => rfl
      case refine_6 => (intro w' hSw; (try dsimp only at hSw); go_simp; (try with_reducible rfl))
      simp only [Act.put, List.setIfInBounds_toArray, List.set_cons_zero, List.set_cons_succ]
      refine take_one (i := 2) (d := 39) (oi := ?_) (v := ?_) ?_ (by kernel_rfl) (by kernel_rfl) (by kernel_rfl) (fun _ _ _ h => h) ?_ ?_ ?_ (by assumption) ?_
      case refine_3 => (simp only [List.getElem?_toArray, List.getElem?_cons_succ, List.getElem?_cons_zero]; rfl)
      case refine_4 => rfl
      case refine_5 => rfl
      case refine_6 => (intro w' hSw; (try dsimp only at hSw); go_simp; (try with_reducible rfl))
      simp only [Act.put, List.setIfInBounds_toArray, List.set_cons_zero, List.set_cons_succ]
      refine take_one (i := 3) (d := 40) (oi := ?_) (v := ?_) ?_ (by kernel_rfl) (by kernel_rfl) (by kernel_rfl) (fun _ _ _ h => h) ?_ ?_ ?_ (by assumption) ?_
      case refine_3 => (simp only [List.getElem?_toArray, List.getElem?_cons_succ, List.getElem?_cons_zero]; rfl)
      case refine_4 => rfl
      case refine_5 => rfl
      case refine_6 => (intro w' hSw; (try dsimp only at hSw); go_simp; (try with_reducible rfl))
      simp only [Act.put, List.setIfInBounds_toArray, List.set_cons_zero, List.set_cons_succ]
      refine take_one (i := 4) (d := 41) (oi := ?_) (v := ?_) ?_ (by kernel_rfl) (by kernel_rfl) (by kernel_rfl) (fun _ _ _ h => h) ?_ ?_ ?_ (by assumption) ?_
      case refine_3 => (simp only [List.getElem?_toArray, List.getElem?_cons_succ, List.getElem?_cons_zero]; rfl)
      case refine_4 => rfl
      case refine_5 => rfl
      case refine_6 => (intro w' hSw; (try dsimp only at hSw); go_simp; (try with_reducible rfl))
      simp only [Act.put, List.setIfInBounds_toArray, List.set_cons_zero, List.set_cons_succ]
      refine take_one (i := 5) (d := 42) (oi := ?_) (v := ?_) ?_ (by kernel_rfl) (by kernel_rfl) (by kernel_rfl) (fun _ _ _ h => h) ?_ ?_ ?_ (by assumption) ?_
      case refine_3 => (simp only [List.getElem?_toArray, List.getElem?_cons_succ, List.getElem?_cons_zero]; rfl)
      case refine_4 => rfl
      case refine_5 => rfl
      case refine_6 => (intro w' hSw; (try dsimp only at hSw); go_simp; (try with_reducible rfl))
      simp only [Act.put, List.setIfInBounds_toArray, List.set_cons_zero, List.set_cons_succ]
      refine take_one (i := 6) (d := 43) (oi := ?_) (v := ?_) ?_ (by kernel_rfl) (by kernel_rfl) (by kernel_rfl) (fun _ _ _ h => h) ?_ ?_ ?_ (by assumption) ?_
      case refine_3 => (simp only [List.getElem?_toArray, List.getElem?_cons_succ, List.getElem?_cons_zero]; rfl)
      case refine_4 => rfl
      case refine_5 => rfl
      case refine_6 => (intro w' hSw; (try dsimp only at hSw); go_simp; (try with_reducible rfl))
      simp only [Act.put, List.setIfInBounds_toArray, List.set_cons_zero, List.set_cons_succ]
      refine take_one (i := 7) (d := 44) (oi := ?_) (v := ?_) ?_ (by kernel_rfl) (by kernel_rfl) (by kernel_rfl) (fun _ _ _ h => h) ?_ ?_ ?_ (by assumption) ?_
      case refine_3 => (simp only [List.getElem?_toArray, List.getElem?_cons_succ, List.getElem?_cons_zero]; rfl)
      case refine_4 => rfl
      case refine_5 => rfl
      case refine_6 => (intro w' hSw; (try dsimp only at hSw); go_simp; (try with_reducible rfl))
      simp only [Act.put, List.setIfInBounds_toArray, List.set_cons_zero, List.set_cons_succ]
      refine take_one (i := 8) (d := 45) (oi := ?_) (v := ?_) ?_ (by kernel_rfl) (by kernel_rfl) (by kernel_rfl) (fun _ _ _ h => h) ?_ ?_ ?_ (by assumption) ?_
      case refine_3 => (simp only [List.getElem?_toArray, List.getElem?_cons_succ, List.getElem?_cons_zero]; rfl)
      case refine_4 => rfl
      case refine_5 => rfl
      case refine_6 => (intro w' hSw; (try dsimp only at hSw); go_simp; (try with_reducible rfl))
      simp only [Act.put, List.setIfInBounds_toArray, List.set_cons_zero, List.set_cons_succ]
      refine take_one (i := 9) (d := 46) (oi := ?_) (v := ?_) ?_ (by kernel_rfl) (by kernel_rfl) (by kernel_rfl) (fun _ _ _ h => h) ?_ ?_ ?_ (by assumption) ?_
      case refine_3 => (simp only [List.getElem?_toArray, List.getElem?_cons_succ, List.getElem?_cons_zero]; rfl)
      case refine_4 => rfl
      case refine_5 => rfl
      case refine_6 => (intro w' hSw; (try dsimp only at hSw); go_simp; (try with_reducible rfl))
      simp only [Act.put, List.setIfInBounds_toArray, List.set_cons_zero, List.set_cons_succ]
      refine wpAnyH_ready (rs := [10]) (by kernel_rfl) (by simp) ?_
      refine AllReadyH.cons (o := ?_) ?_ (fun K hK => ?_) AllReadyH.nil
      case refine_2 => (simp only [List.getElem?_toArray, List.getElem?_cons_succ, List.getElem?_cons_zero]; rfl)
      go_simp
      (go_at_call 23; (with_reducible refine (HC.out _ (on_new HO.out HOZ.out)).mono ?_); rintro e w3 ⟨rfl, ho⟩; (replace HOZ := Lib.hid (on_new HOZ.out ho)); clear ho)
      go_wp2_with (fail)
      refine hK.out _ _ (KP.out _ HOZ.out) (fun hHeld => ?_)
      clear hK K
      try simp only [Act.put, List.setIfInBounds_toArray, List.set_cons_zero, List.set_cons_succ]
      refine take_one (i := 11) (d := 48) (oi := ?_) (v := ?_) ?_ (by kernel_rfl) (by kernel_rfl) (by kernel_rfl) (fun _ _ _ h => h) ?_ ?_ ?_ (by assumption) ?_
      case refine_3 => (simp only [List.getElem?_toArray, List.getElem?_cons_succ, List.getElem?_cons_zero]; rfl)
      case refine_4 => rfl
      case refine_5 => rfl
      case refine_6 => (intro w' hSw; (try dsimp only at hSw); go_simp; (try with_reducible rfl))
      simp only [Act.put, List.setIfInBounds_toArray, List.set_cons_zero, List.set_cons_succ]
      refine wpAnyH_done (by kernel_rfl) ?_ _
      clear x1 x2 x3 x4 x5 x6 x7 x8 x9 x10
      go_wp2
      go_roundw
      case rel => exact ⟨k + 1, by omega, by go_num, HOZ.out⟩
      case measure => simp [intOf]; omega
    · obtain rfl : n = k := by omega
      have hkm : ¬ (n : Int) < (n : Int) := by omega
      obtain ⟨i0, i1, i2⟩ := (HI.out.later ho).tri
      obtain ⟨k0, k1, k2⟩ := (HJ.out.later ho).tri
      clear ho
      go_wp2
      clear hkm i0 i1 i2 k0 k1 k2
      obtain ⟨wn, hwn⟩ : ∃ wn, wn = wr := ⟨_, rfl⟩
      subst hwn
      go_loopw [6] (fun i wr => ∃ (k : Nat), k ≤ m ∧ i = .int .i64 k ∧ Only (wn.heap.size ≤ ·) wn wr) (fun i _ => m - (intOf i).toNat)
      case atStart => exact ⟨0, Nat.zero_le _, rfl, Only.refl _ _⟩
      case round =>
        obtain ⟨k, hk, rfl, ho⟩ := hrel
        have HOX := Lib.hid ho
        replace ho := HOL.out.trans (ho.mono fun k h => Nat.le_trans HOL.out.size h)
        have HOR2 := Lib.hid (on_new HO.out ho)
        have HOL2 := Lib.hid ho
        by_cases hlt : k < m
        · obtain ⟨b, off, b2, off2, P, P2, t, p, p2, r, xs, rfl, rfl, ht, hcells, hsrc⟩ := HKD.out k hlt
          have HC := Lib.hid hsrc
          have HCS := Lib.hid hcells
          clear hcells hsrc
          have KP : Hid (∀ w' : World, Only (W0.heap.size ≤ ·) W0 w' → (w'.cell? ⟨w.heap.size, 2, none⟩ = some (.slice (some ⟨b, off, none⟩) m d) ∧ w'.cell? ⟨w.heap.size + 1, 2, none⟩ = some (.slice (some ⟨b2, off2, none⟩) m d2) ∧ w'.cell? ⟨b, off + k * 2, none⟩ = some (.slice P t p) ∧ w'.cell? ⟨b, off + k * 2 + 1, none⟩ = some (.int .i64 r) ∧ w'.cell? ⟨b2, off2 + k * 2, none⟩ = some (.slice P2 t p2) ∧ w'.cell? ⟨b2, off2 + k * 2 + 1, none⟩ = some (.int .i64 r))) := fun W' hW => ⟨((HI.out.later hW).tri).2.2, ((HJ.out.later hW).tri).2.2, HCS.out W' (on_new HO.out hW)⟩
          obtain ⟨x1, x2, x3, x4, x5, x6⟩ := KP.out _ HOL2.out
          have j1 : (0 : Int) ≤ (k : Int) := by omega
          have j2 : (k : Int) < (m : Int) := by omega
          clear ht ho
          go_wp2_with (fail)
          have HOW : Hid (Only (wr.heap.size ≤ ·) wr wr.drew) := (Only.refl _ wr).drew
          have HOZ : Hid (Only (W0.heap.size ≤ ·) W0 wr.drew) := HOL2.out.drew
          refine wp_region_held_drew (S := (fun w' => (w'.cell? ⟨w.heap.size, 2, none⟩ = some (.slice (some ⟨b, off, none⟩) m d) ∧ w'.cell? ⟨w.heap.size + 1, 2, none⟩ = some (.slice (some ⟨b2, off2, none⟩) m d2) ∧ w'.cell? ⟨b, off + k * 2, none⟩ = some (.slice P t p) ∧ w'.cell? ⟨b, off + k * 2 + 1, none⟩ = some (.int .i64 r) ∧ w'.cell? ⟨b2, off2 + k * 2, none⟩ = some (.slice P2 t p2) ∧ w'.cell? ⟨b2, off2 + k * 2 + 1, none⟩ = some (.int .i64 r)))) (by kernel_rfl) (KP.out _ HOZ.out) (fun hHeld => ?_)
          refine take_one (i := 0) (d := 56) (oi := ?_) (v := ?_) ?_ (by kernel_rfl) (by kernel_rfl) (by kernel_rfl) (fun _ _ _ h => h) ?_ ?_ ?_ (by assumption) ?_
          case refine_3 => (simp only [List.getElem?_toArray, List.getElem?_cons_zero]; rfl)
          case refine_4 => rfl
          case refine_5 => rfl
          case refine_6 => (intro w' hSw; (try dsimp only at hSw); go_simp; (try with_reducible rfl))
          simp only [Act.put, List.setIfInBounds_toArray, List.set_cons_zero, List.set_cons_succ]
          refine take_one (i := 1) (d := 57) (oi := ?_) (v := ?_) ?_ (by kernel_rfl) (by kernel_rfl) (by kernel_rfl) (fun _ _ _ h => h) ?_ ?_ ?_ (by assumption) ?_
          case refine_3 => (simp only [List.getElem?_toArray, List.getElem?_cons_succ, List.getElem?_cons_zero]; rfl)
          case refine_4 => rfl
          case refine_5 => rfl
          case refine_6 => (intro w' hSw; (try dsimp only at hSw); go_simp; (try with_reducible rfl))
          simp only [Act.put, List.setIfInBounds_toArray, List.set_cons_zero, List.set_cons_succ]
          refine take_one (i := 2) (d := 58) (oi := ?_) (v := ?_) ?_ (by kernel_rfl) (by kernel_rfl) (by kernel_rfl) (fun _ _ _ h => h) ?_ ?_ ?_ (by assumption) ?_
          case refine_3 => (simp only [List.getElem?_toArray, List.getElem?_cons_succ, List.getElem?_cons_zero]; rfl)
          case refine_4 => rfl
          case refine_5 => rfl
          case refine_6 => (intro w' hSw; (try dsimp only at hSw); go_simp; (try with_reducible rfl))
          simp only [Act.put, List.setIfInBounds_toArray, List.set_cons_zero, List.set_cons_succ]
          refine take_one (i := 3) (d := 59) (oi := ?_) (v := ?_) ?_ (by kernel_rfl) (by kernel_rfl) (by kernel_rfl) (fun _ _ _ h => h) ?_ ?_ ?_ (by assumption) ?_
          case refine_3 => (simp only [List.getElem?_toArray, List.getElem?_cons_succ, List.getElem?_cons_zero]; rfl)
          case refine_4 => rfl
          case refine_5 => rfl
          case refine_6 => (intro w' hSw; (try dsimp only at hSw); go_simp; (try with_reducible rfl))
          simp only [Act.put, List.setIfInBounds_toArray, List.set_cons_zero, List.set_cons_succ]
          refine take_one (i := 4) (d := 60) (oi := ?_) (v := ?_) ?_ (by kernel_rfl) (by kernel_rfl) (by kernel_rfl) (fun _ _ _ h => h) ?_ ?_ ?_ (by assumption) ?_
          case refine_3 => (simp only [List.getElem?_toArray, List.getElem?_cons_succ, List.getElem?_cons_zero]; rfl)
          case refine_4 => rfl
          case refine_5 => rfl
          case refine_6 => (intro w' hSw; (try dsimp only at hSw); go_simp; (try with_reducible rfl))
          simp only [Act.put, List.setIfInBounds_toArray, List.set_cons_zero, List.set_cons_succ]
          refine take_one (i := 5) (d := 61) (oi := ?_) (v := ?_) ?_ (by kernel_rfl) (by kernel_rfl) (by kernel_rfl) (fun _ _ _ h => h) ?_ ?_ ?_ (by assumption) ?_
          case refine_3 => (simp only [List.getElem?_toArray, List.getElem?_cons_succ, List.getElem?_cons_zero]; rfl)
          case refine_4 => rfl
          case refine_5 => rfl
          case refine_6 => (intro w' hSw; (try dsimp only at hSw); go_simp; (try with_reducible rfl))
          simp only [Act.put, List.setIfInBounds_toArray, List.set_cons_zero, List.set_cons_succ]
          refine take_one (i := 6) (d := 62) (oi := ?_) (v := ?_) ?_ (by kernel_rfl) (by kernel_rfl) (by kernel_rfl) (fun _ _ _ h => h) ?_ ?_ ?_ (by assumption) ?_
          case refine_3 => (simp only [List.getElem?_toArray, List.getElem?_cons_succ, List.getElem?_cons_zero]; rfl)
          case refine_4 => rfl
          case refine_5 => rfl
          case refine_6 => (intro w' hSw; (try dsimp only at hSw); go_simp; (try with_reducible rfl))
          simp only [Act.put, List.setIfInBounds_toArray, List.set_cons_zero, List.set_cons_succ]
          refine take_one (i := 7) (d := 63) (oi := ?_) (v := ?_) ?_ (by kernel_rfl) (by kernel_rfl) (by kernel_rfl) (fun _ _ _ h => h) ?_ ?_ ?_ (by assumption) ?_
          case refine_3 => (simp only [List.getElem?_toArray, List.getElem?_cons_succ, List.getElem?_cons_zero]; rfl)
          case refine_4 => rfl
          case refine_5 => rfl
          case refine_6 => (intro w' hSw; (try dsimp only at hSw); go_simp; (try with_reducible rfl))
          simp only [Act.put, List.setIfInBounds_toArray, List.set_cons_zero, List.set_cons_succ]
          refine take_one (i := 8) (d := 64) (oi := ?_) (v := ?_) ?_ (by kernel_rfl) (by kernel_rfl) (by kernel_rfl) (fun _ _ _ h => h) ?_ ?_ ?_ (by assumption) ?_
          case refine_3 => (simp only [List.getElem?_toArray, List.getElem?_cons_succ, List.getElem?_cons_zero]; rfl)
          case refine_4 => rfl
          case refine_5 => rfl
          case refine_6 => (intro w' hSw; (try dsimp only at hSw); go_simp; (try with_reducible rfl))
          simp only [Act.put, List.setIfInBounds_toArray, List.set_cons_zero, List.set_cons_succ]
          refine take_one (i := 9) (d := 65) (oi := ?_) (v := ?_) ?_ (by kernel_rfl) (by kernel_rfl) (by kernel_rfl) (fun _ _ _ h => h) ?_ ?_ ?_ (by assumption) ?_
          case refine_3 => (simp only [List.getElem?_toArray, List.getElem?_cons_succ, List.getElem?_cons_zero]; rfl)
          case refine_4 => rfl
          case refine_5 => rfl
          case refine_6 => (intro w' hSw; (try dsimp only at hSw); go_simp; (try with_reducible rfl))
          simp only [Act.put, List.setIfInBounds_toArray, List.set_cons_zero, List.set_cons_succ]
          refine take_one (i := 10) (d := 66) (oi := ?_) (v := ?_) ?_ (by kernel_rfl) (by kernel_rfl) (by kernel_rfl) (fun _ _ _ h => h) ?_ ?_ ?_ (by assumption) ?_
          case refine_3 => (simp only [List.getElem?_toArray, List.getElem?_cons_succ, List.getElem?_cons_zero]; rfl)
          case refine_4 => rfl
          case refine_5 => rfl
          case refine_6 => (intro w' hSw; (try dsimp only at hSw); go_simp; (try with_reducible rfl))
          simp only [Act.put, List.setIfInBounds_toArray, List.set_cons_zero, List.set_cons_succ]
          refine take_one (i := 11) (d := 67) (oi := ?_) (v := ?_) ?_ (by kernel_rfl) (by kernel_rfl) (by kernel_rfl) (fun _ _ _ h => h) ?_ ?_ ?_ (by assumption) ?_
          case refine_3 => (simp only [List.getElem?_toArray, List.getElem?_cons_succ, List.getElem?_cons_zero]; rfl)
          case refine_4 => rfl
          case refine_5 => rfl
          case refine_6 => (intro w' hSw; (try dsimp only at hSw); go_simp; (try with_reducible rfl))
          simp only [Act.put, List.setIfInBounds_toArray, List.set_cons_zero, List.set_cons_succ]
          refine take_one (i := 12) (d := 68) (oi := ?_) (v := ?_) ?_ (by kernel_rfl) (by kernel_rfl) (by kernel_rfl) (fun _ _ _ h => h) ?_ ?_ ?_ (by assumption) ?_
          case refine_3 => (simp only [List.getElem?_toArray, List.getElem?_cons_succ, List.getElem?_cons_zero]; rfl)
          case refine_4 => rfl
          case refine_5 => rfl
          case refine_6 => (intro w' hSw; (try dsimp only at hSw); go_simp; (try with_reducible rfl))
          simp only [Act.put, List.setIfInBounds_toArray, List.set_cons_zero, List.set_cons_succ]
          refine take_one (i := 13) (d := 69) (oi := ?_) (v := ?_) ?_ (by kernel_rfl) (by kernel_rfl) (by kernel_rfl) (fun _ _ _ h => h) ?_ ?_ ?_ (by assumption) ?_
          case refine_3 => (simp only [List.getElem?_toArray, List.getElem?_cons_succ, List.getElem?_cons_zero]; rfl)
          case refine_4 => rfl
          case refine_5 => rfl
          case refine_6 => (intro w' hSw; (try dsimp only at hSw); go_simp; (try with_reducible rfl))
          simp only [Act.put, List.setIfInBounds_toArray, List.set_cons_zero, List.set_cons_succ]
          refine take_one (i := 14) (d := 70) (oi := ?_) (v := ?_) ?_ (by kernel_rfl) (by kernel_rfl) (by kernel_rfl) (fun _ _ _ h => h) ?_ ?_ ?_ (by assumption) ?_
          case refine_3 => (simp only [List.getElem?_toArray, List.getElem?_cons_succ, List.getElem?_cons_zero]; rfl)
          case refine_4 => rfl
          case refine_5 => rfl
          case refine_6 => (intro w' hSw; (try dsimp only at hSw); go_simp; (try with_reducible rfl))
          simp only [Act.put, List.setIfInBounds_toArray, List.set_cons_zero, List.set_cons_succ]
          refine take_one (i := 15) (d := 71) (oi := ?_) (v := ?_) ?_ (by kernel_rfl) (by kernel_rfl) (by kernel_rfl) (fun _ _ _ h => h) ?_ ?_ ?_ (by assumption) ?_
          case refine_3 => (simp only [List.getElem?_toArray, List.getElem?_cons_succ, List.getElem?_cons_zero]; rfl)
          case refine_4 => rfl
          case refine_5 => rfl
          case refine_6 => (intro w' hSw; (try dsimp only at hSw); go_simp; (try with_reducible rfl))
          simp only [Act.put, List.setIfInBounds_toArray, List.set_cons_zero, List.set_cons_succ]
          refine take_one (i := 16) (d := 72) (oi := ?_) (v := ?_) ?_ (by kernel_rfl) (by kernel_rfl) (by kernel_rfl) (fun _ _ _ h => h) ?_ ?_ ?_ (by assumption) ?_
          case refine_3 => (simp only [List.getElem?_toArray, List.getElem?_cons_succ, List.getElem?_cons_zero]; rfl)
          case refine_4 => rfl
          case refine_5 => rfl
          case refine_6 => (intro w' hSw; (try dsimp only at hSw); go_simp; (try with_reducible rfl))
          simp only [Act.put, List.setIfInBounds_toArray, List.set_cons_zero, List.set_cons_succ]
          refine take_one (i := 17) (d := 73) (oi := ?_) (v := ?_) ?_ (by kernel_rfl) (by kernel_rfl) (by kernel_rfl) (fun _ _ _ h => h) ?_ ?_ ?_ (by assumption) ?_
          case refine_3 => (simp only [List.getElem?_toArray, List.getElem?_cons_succ, List.getElem?_cons_zero]; rfl)
          case refine_4 => rfl
          case refine_5 => rfl
          case refine_6 => (intro w' hSw; (try dsimp only at hSw); go_simp; (try with_reducible rfl))
          simp only [Act.put, List.setIfInBounds_toArray, List.set_cons_zero, List.set_cons_succ]
          refine take_one (i := 18) (d := 74) (oi := ?_) (v := ?_) ?_ (by kernel_rfl) (by kernel_rfl) (by kernel_rfl) (fun _ _ _ h => h) ?_ ?_ ?_ (by assumption) ?_
          case refine_3 => (simp only [List.getElem?_toArray, List.getElem?_cons_succ, List.getElem?_cons_zero]; rfl)
          case refine_4 => rfl
          case refine_5 => rfl
          case refine_6 => (intro w' hSw; (try dsimp only at hSw); go_simp; (try with_reducible rfl))
          simp only [Act.put, List.setIfInBounds_toArray, List.set_cons_zero, List.set_cons_succ]
          refine take_one (i := 19) (d := 75) (oi := ?_) (v := ?_) ?_ (by kernel_rfl) (by kernel_rfl) (by kernel_rfl) (fun _ _ _ h => h) ?_ ?_ ?_ (by assumption) ?_
          case refine_3 => (simp only [List.getElem?_toArray, List.getElem?_cons_succ, List.getElem?_cons_zero]; rfl)
          case refine_4 => rfl
          case refine_5 => rfl
          case refine_6 => (intro w' hSw; (try dsimp only at hSw); go_simp; (try with_reducible rfl))
          simp only [Act.put, List.setIfInBounds_toArray, List.set_cons_zero, List.set_cons_succ]
          refine take_one (i := 20) (d := 76) (oi := ?_) (v := ?_) ?_ (by kernel_rfl) (by kernel_rfl) (by kernel_rfl) (fun _ _ _ h => h) ?_ ?_ ?_ (by assumption) ?_
          case refine_3 => (simp only [List.getElem?_toArray, List.getElem?_cons_succ, List.getElem?_cons_zero]; rfl)
          case refine_4 => rfl
          case refine_5 => rfl
          case refine_6 => (intro w' hSw; (try dsimp only at hSw); go_simp; (try with_reducible rfl))
          simp only [Act.put, List.setIfInBounds_toArray, List.set_cons_zero, List.set_cons_succ]
          refine take_one (i := 21) (d := 77) (oi := ?_) (v := ?_) ?_ (by kernel_rfl) (by kernel_rfl) (by kernel_rfl) (fun _ _ _ h => h) ?_ ?_ ?_ (by assumption) ?_
          case refine_3 => (simp only [List.getElem?_toArray, List.getElem?_cons_succ, List.getElem?_cons_zero]; rfl)
          case refine_4 => rfl
          case refine_5 => rfl
          case refine_6 => (intro w' hSw; (try dsimp only at hSw); go_simp; (try with_reducible rfl))
          simp only [Act.put, List.setIfInBounds_toArray, List.set_cons_zero, List.set_cons_succ]
          refine take_one (i := 22) (d := 78) (oi := ?_) (v := ?_) ?_ (by kernel_rfl) (by kernel_rfl) (by kernel_rfl) (fun _ _ _ h => h) ?_ ?_ ?_ (by assumption) ?_
          case refine_3 => (simp only [List.getElem?_toArray, List.getElem?_cons_succ, List.getElem?_cons_zero]; rfl)
          case refine_4 => rfl
          case refine_5 => rfl
          case refine_6 => (intro w' hSw; (try dsimp only at hSw); go_simp; (try with_reducible rfl))
          simp only [Act.put, List.setIfInBounds_toArray, List.set_cons_zero, List.set_cons_succ]
          refine take_one (i := 23) (d := 79) (oi := ?_) (v := ?_) ?_ (by kernel_rfl) (by kernel_rfl) (by kernel_rfl) (fun _ _ _ h => h) ?_ ?_ ?_ (by assumption) ?_
          case refine_3 => (simp only [List.getElem?_toArray, List.getElem?_cons_succ, List.getElem?_cons_zero]; rfl)
          case refine_4 => rfl
          case refine_5 => rfl
          case refine_6 => (intro w' hSw; (try dsimp only at hSw); go_simp; (try with_reducible rfl))
          simp only [Act.put, List.setIfInBounds_toArray, List.set_cons_zero, List.set_cons_succ]
          refine take_one (i := 24) (d := 80) (oi := ?_) (v := ?_) ?_ (by kernel_rfl) (by kernel_rfl) (by kernel_rfl) (fun _ _ _ h => h) ?_ ?_ ?_ (by assumption) ?_
          case refine_3 => (simp only [List.getElem?_toArray, List.getElem?_cons_succ, List.getElem?_cons_zero]; rfl)
          case refine_4 => rfl
          case refine_5 => rfl
          case refine_6 => (intro w' hSw; (try dsimp only at hSw); go_simp; (try with_reducible rfl))
          simp only [Act.put, List.setIfInBounds_toArray, List.set_cons_zero, List.set_cons_succ]
          refine take_one (i := 25) (d := 81) (oi := ?_) (v := ?_) ?_ (by kernel_rfl) (by kernel_rfl) (by kernel_rfl) (fun _ _ _ h => h) ?_ ?_ ?_ (by assumption) ?_
          case refine_3 => (simp only [List.getElem?_toArray, List.getElem?_cons_succ, List.getElem?_cons_zero]; rfl)
          case refine_4 => rfl
          case refine_5 => rfl
          case refine_6 => (intro w' hSw; (try dsimp only at hSw); go_simp; (try with_reducible rfl))
          simp only [Act.put, List.setIfInBounds_toArray, List.set_cons_zero, List.set_cons_succ]
          refine wpAnyH_ready (rs := [26]) (by kernel_rfl) (by simp) ?_
          refine AllReadyH.cons (o := ?_) ?_ (fun K hK => ?_) AllReadyH.nil
          case refine_2 => (simp only [List.getElem?_toArray, List.getElem?_cons_succ, List.getElem?_cons_zero]; rfl)
          go_simp
          (go_at_call 24; (with_reducible refine (HCT.out _ _ _ xs (HC.out _ (on_new HO.out HOZ.out)).1 (HC.out _ (on_new HO.out HOZ.out)).2).mono ?_); rintro e w3 ⟨rfl, ho⟩; (replace HOZ := Lib.hid (on_new HOZ.out ho)); (replace HOW := Lib.hid (on_new HOW.out ho)); clear ho)
          go_wp2_with (fail)
          refine hK.out _ _ (KP.out _ HOZ.out) (fun hHeld => ?_)
          clear hK K
          try simp only [Act.put, List.setIfInBounds_toArray, List.set_cons_zero, List.set_cons_succ]
          refine take_one (i := 27) (d := 83) (oi := ?_) (v := ?_) ?_ (by kernel_rfl) (by kernel_rfl) (by kernel_rfl) (fun _ _ _ h => h) ?_ ?_ ?_ (by assumption) ?_
          case refine_3 => (simp only [List.getElem?_toArray, List.getElem?_cons_succ, List.getElem?_cons_zero]; rfl)
          case refine_4 => rfl
          case refine_5 => rfl
          case refine_6 => (intro w' hSw; (try dsimp only at hSw); go_simp; (try with_reducible rfl))
          simp only [Act.put, List.setIfInBounds_toArray, List.set_cons_zero, List.set_cons_succ]
          refine take_one (i := 28) (d := 84) (oi := ?_) (v := ?_) ?_ (by kernel_rfl) (by kernel_rfl) (by kernel_rfl) (fun _ _ _ h => h) ?_ ?_ ?_ (by assumption) ?_
          case refine_3 => (simp only [List.getElem?_toArray, List.getElem?_cons_succ, List.getElem?_cons_zero]; rfl)
          case refine_4 => rfl
          case refine_5 => rfl
          case refine_6 => (intro w' hSw; (try dsimp only at hSw); go_simp; (try with_reducible rfl))
          simp only [Act.put, List.setIfInBounds_toArray, List.set_cons_zero, List.set_cons_succ]
          refine wpAnyH_done (by kernel_rfl) ?_ _
          clear x1 x2 x3 x4 x5 x6
          go_wp2
          go_roundw
          case rel => exact ⟨k + 1, by omega, by go_num, HOX.out.trans (HOW.out.mono fun k h => Nat.le_trans HOX.out.size h)⟩
          case measure => simp [intOf]; omega
        · obtain rfl : m = k := by omega
          have hkm : ¬ (m : Int) < (m : Int) := by omega
          obtain ⟨i0, i1, i2⟩ := (HI.out.later ho).tri
          obtain ⟨k0, k1, k2⟩ := (HJ.out.later ho).tri
          clear ho
          go_wp2
          go_ret
          exact ⟨rfl, HOR2.out⟩
end Go.Proofs.YtoghojgajpfkkaaGreatDoor

/-
  EqualFunc of equal rows; Same of the program, where both are the same; few of the laws.
-/
set_option linter.unusedVariables false
namespace Go.Proofs.YtoghojgajpfkkaaGreatDoor
open Go.RowKit

set_option maxHeartbeats 3200000 in
theorem sameKid_eq (w : World) (P P2 : Option Addr) (t p p2 : Nat) (r : Int) (xs : Bytes) (ht : t = xs.length) (h : Src w (.slice P t p) xs) (h2 : Src w (.slice P2 t p2) xs) :
    Calls Tryz.prog 47 #[.agg #[.slice P t p, .int .i64 r], .agg #[.slice P2 t p2, .int .i64 r]] w (Told w (.bool true)) := by
  have HO : Hid (Only (w.heap.size ≤ ·) w ((w.alloc (.cells #[.slice P t p, .int .i64 r] 67)).alloc (.cells #[.slice P2 t p2, .int .i64 r] 67))) := ((Only.refl _ w).alloc (fun _ h => h) _).alloc (fun _ h => h) _
  have H1 := Lib.hid (h.later HO.out)
  have H2 := Lib.hid (h2.later HO.out)
  clear h h2 ht
  go_enter Tryz.func47, Tryz.ntmps47
  go_wp2_with (go_at_call 11; (with_reducible refine (Equal_b _ _ _ xs xs true H1.out H2.out (decide_eq_true rfl)).mono ?_); rintro e w' ⟨rfl, rfl⟩)
  go_ret
  exact ⟨rfl, HO.out⟩


set_option maxRecDepth 100000 in
set_option maxHeartbeats 6400000 in
theorem EqI_eq (w : World) (A A2 : Option Addr) (n c c2 : Nat) (l : List It) (h : Rw itE w (.slice A n c) l) (h2 : Rw itE w (.slice A2 n c2) l) (hn : n ≤ 1000) :
    Calls Tryz.prog 44 #[.slice A n c, .slice A2 n c2, .func (.func 45) #[] #[]] w (Told w (.bool true)) := by
  have HIT := Lib.hid (its_both' h h2)
  have hc1 := h.cap
  have hc2 := h2.cap
  clear h h2
  go_enter Tryz.func44, Tryz.ntmps44
  go_wp2
  go_loopw [17] (fun i wr => ∃ (k : Nat), k ≤ n ∧ i = .int .i64 k ∧ Only (w.heap.size ≤ ·) w wr) (fun i _ => n - (intOf i).toNat)
  case atStart => exact ⟨0, Nat.zero_le _, rfl, Only.refl _ _⟩
  case round =>
    obtain ⟨k, hk, rfl, ho⟩ := hrel
    have HOL := Lib.hid ho
    clear ho
    by_cases hlt : k < n
    · obtain ⟨b, off, b2, off2, P, Q, P2, Q2, t, p, e, q, p2, q2, s, r, rfl, rfl, hcells, hcall⟩ := HIT.out k hlt
      have HC := Lib.hid hcall
      clear hcall
      have HCS := Lib.hid hcells
      clear hcells
      obtain ⟨x1, x2, x3, x4, x5, x6, x7, x8⟩ := HCS.out _ HOL.out
      have y := HCS.out (wr.alloc (.cells #[.slice P t p, .slice Q e q, .int .i64 s, .int .i64 r] 44)) (HOL.out.alloc (fun _ h => h) _)
      obtain ⟨y1, y2, y3, y4, y5, y6, y7, y8⟩ := y
      have HO2 : Hid (Only (w.heap.size ≤ ·) w ((wr.alloc (.cells #[.slice P t p, .slice Q e q, .int .i64 s, .int .i64 r] 44)).alloc (.cells #[.slice P2 t p2, .slice Q2 e q2, .int .i64 s, .int .i64 r] 44))) := (HOL.out.alloc (fun _ h => h) _).alloc (fun _ h => h) _
      have j1 : (0 : Int) ≤ (k : Int) := by omega
      have j2 : (k : Int) < (n : Int) := by omega
      go_wp2_with (go_at_call 45; (with_reducible refine (HC.out _ HO2.out).mono ?_); rintro e w3 ⟨rfl, ho⟩; have HO3 := Lib.hid (on_new HO2.out ho); clear ho)
      go_roundw
      case rel => exact ⟨k + 1, by omega, by go_num, HO3.out⟩
      case measure => simp [intOf]; omega
    · obtain rfl : n = k := by omega
      have hkm : ¬ (n : Int) < (n : Int) := by omega
      go_wp2
      go_ret
      exact ⟨rfl, HOL.out⟩

set_option maxRecDepth 100000 in
set_option maxHeartbeats 6400000 in
theorem EqK_eq (w : World) (B B2 : Option Addr) (m d d2 : Nat) (l : List Kd) (h : Rw kdE w (.slice B m d) l) (h2 : Rw kdE w (.slice B2 m d2) l) (hn : m ≤ 1000) :
    Calls Tryz.prog 46 #[.slice B m d, .slice B2 m d2, .func (.func 47) #[] #[]] w (Told w (.bool true)) := by
  have HIT := Lib.hid (kds_both h h2)
  have hc1 := h.cap
  have hc2 := h2.cap
  clear h h2
  go_enter Tryz.func46, Tryz.ntmps46
  go_wp2
  go_loopw [17] (fun i wr => ∃ (k : Nat), k ≤ m ∧ i = .int .i64 k ∧ Only (w.heap.size ≤ ·) w wr) (fun i _ => m - (intOf i).toNat)
  case atStart => exact ⟨0, Nat.zero_le _, rfl, Only.refl _ _⟩
  case round =>
    obtain ⟨k, hk, rfl, ho⟩ := hrel
    have HOL := Lib.hid ho
    clear ho
    by_cases hlt : k < m
    · obtain ⟨b, off, b2, off2, P, P2, t, p, p2, r, xs, rfl, rfl, ht, hcells, hsrc⟩ := HIT.out k hlt
      have HC : Hid (∀ W, Only (w.heap.size ≤ ·) w W → Calls Tryz.prog 47 #[.agg #[.slice P t p, .int .i64 r], .agg #[.slice P2 t p2, .int .i64 r]] W (Told W (.bool true))) := fun W hW => sameKid_eq W P P2 t p p2 r xs ht (hsrc W hW).1 (hsrc W hW).2
      clear ht hsrc
      have HCS := Lib.hid hcells
      clear hcells
      obtain ⟨x1, x2, x3, x4⟩ := HCS.out _ HOL.out
      have y := HCS.out (wr.alloc (.cells #[.slice P t p, .int .i64 r] 67)) (HOL.out.alloc (fun _ h => h) _)
      obtain ⟨y1, y2, y3, y4⟩ := y
      have HO2 : Hid (Only (w.heap.size ≤ ·) w ((wr.alloc (.cells #[.slice P t p, .int .i64 r] 67)).alloc (.cells #[.slice P2 t p2, .int .i64 r] 67))) := (HOL.out.alloc (fun _ h => h) _).alloc (fun _ h => h) _
      have j1 : (0 : Int) ≤ (k : Int) := by omega
      have j2 : (k : Int) < (m : Int) := by omega
      go_wp2_with (go_at_call 47; (with_reducible refine (HC.out _ HO2.out).mono ?_); rintro e w3 ⟨rfl, ho⟩; have HO3 := Lib.hid (on_new HO2.out ho); clear ho)
      go_roundw
      case rel => exact ⟨k + 1, by omega, by go_num, HO3.out⟩
      case measure => simp [intOf]; omega
    · obtain rfl : m = k := by omega
      have hkm : ¬ (m : Int) < (m : Int) := by omega
      go_wp2
      go_ret
      exact ⟨rfl, HOL.out⟩

set_option maxRecDepth 100000 in
set_option maxHeartbeats 6400000 in
theorem NSame_eq (w : World) (f : Bool) (A B A2 B2 : Option Addr) (n c m d c2 d2 : Nat) (x : Nd) (h : Nod w x f (.slice A n c) (.slice B m d)) (h2 : Nod w x f (.slice A2 n c2) (.slice B2 m d2)) (hn : n ≤ 1000) (hm : m ≤ 1000) :
    Calls Tryz.prog 15 #[.agg #[.bool f, .slice A n c, .slice B m d], .agg #[.bool f, .slice A2 n c2, .slice B2 m d2]] w (Told w (.bool true)) := by
  obtain ⟨W0, hW0⟩ : ∃ W0, W0 = ((w.alloc (.cells #[.bool f, .slice A n c, .slice B m d] 28)).alloc (.cells #[.bool f, .slice A2 n c2, .slice B2 m d2] 28)) := ⟨_, rfl⟩
  have HO : Hid (Only (w.heap.size ≤ ·) w W0) := Lib.hid (by rw [hW0]; exact ((Only.refl _ w).alloc (fun _ h => h) _).alloc (fun _ h => h) _)
  have HI : Hid (Blk W0 w.heap.size 28 [.bool f, .slice A n c, .slice B m d]) := Lib.hid (by rw [hW0]; exact (Blk.new w 28 _).alloc _)
  have HJ : Hid (Blk W0 (w.heap.size + 1) 28 [.bool f, .slice A2 n c2, .slice B2 m d2]) := Lib.hid (by
    rw [hW0]
    have := Blk.new (w.alloc (.cells #[.bool f, .slice A n c, .slice B m d] 28)) 28 [.bool f, .slice A2 n c2, .slice B2 m d2]
    simpa using this)
  have HW0 := Lib.hid hW0
  have HE1 : Hid (∀ W, Only (w.heap.size ≤ ·) w W → Calls Tryz.prog 44 #[.slice A n c, .slice A2 n c2, .func (.func 45) #[] #[]] W (Told W (.bool true))) := fun W hW => EqI_eq W A A2 n c c2 x.its (h.2.1.later hW) (h2.2.1.later hW) hn
  have HE2 : Hid (∀ W, Only (w.heap.size ≤ ·) w W → Calls Tryz.prog 46 #[.slice B m d, .slice B2 m d2, .func (.func 47) #[] #[]] W (Told W (.bool true))) := fun W hW => EqK_eq W B B2 m d d2 x.kds (h.2.2.later hW) (h2.2.2.later hW) hm
  clear h h2 hW0
  have hmf : ∀ (fn : Fn) (first cap : Array Value) (w : World), (Instr.makeFunc fn first cap).run Tryz.prog w = .ok (.func fn first cap) w := fun _ _ _ _ => rfl
  go_enter Tryz.func15, Tryz.ntmps15
  rw [HW0.out] at HI HJ HO
  clear HW0
  go_wp2_with (first
    | (go_at_call 44; (with_reducible refine (HE1.out _ HO.out).mono ?_); rintro e w1 ⟨rfl, ho⟩; (replace HI := Lib.hid (HI.out.later ho)); (replace HJ := Lib.hid (HJ.out.later ho)); (replace HO := Lib.hid (on_new HO.out ho)); (obtain ⟨i0, i1, i2⟩ := HI.out.tri); (obtain ⟨k0, k1, k2⟩ := HJ.out.tri); clear ho)
    | (go_at_call 46; (with_reducible refine (HE2.out _ HO.out).mono ?_); rintro e w2 ⟨rfl, ho⟩; (replace HO := Lib.hid (on_new HO.out ho)); clear ho))
  go_ret
  exact ⟨by first | rfl | (cases f <;> rfl), HO.out⟩

end Go.Proofs.YtoghojgajpfkkaaGreatDoor

/-
  A branch that may be; the side on which a key is: where the answer is yes.
-/
set_option linter.unusedVariables false
namespace Go.Proofs.YtoghojgajpfkkaaGreatDoor
open Go.RowKit
attribute [local go_sem] run_store_func

section
variable (w : World) (A B : Option Addr) (n c m d : Nat) (x : Nd) (g : Int)
end
end Go.Proofs.YtoghojgajpfkkaaGreatDoor

