/-
  Decode.
-/
import Derived.Test.YtbgnfocfnjlabaaDoorEnc
import Derived.Test.YtbgnfocfnjlabaaDoorPnh
import Derived.Test.YtbgnfocfnjlabaaDoorRea
import Derived.Test.YtbgnfocfnjlabaaDoorGa
set_option linter.unusedVariables false
namespace Go.Proofs.YtbgnfocfnjlabaaDoor
open Go.RowKit

theorem results_tct {fn : Func} {P : Program} {p t u : Tmp} {ty : TypeId} {tmps : Array Value} {w : World} {a : Addr} {v : Value} (h : fn.results = #[.tmp t, .cell p ty, .tmp u]) (ha : tmps.getD p undef = .pointer (some a)) (hl : (loadVar ty a).run P w = .ok v w) :
    (results fn tmps).run P w = .ok (.tuple #[tmps.getD t undef, v, tmps.getD u undef]) w := by
  rw [Array.getD_eq_getD_getElem?] at ha
  simp only [results, h]
  simp [ha, asAddr, hl]
theorem get_yes {c : Cur} {k : Int} (h : (c.get k).sp = false) : c.sp = false ∧ c.may k = true ∧ (c.get k).at_ = c.at_ + k.toNat ∧ (c.get k).b = c.b := by
  unfold Cur.get at h ⊢
  by_cases hm : c.may k = true
  · rw [if_pos hm] at h ⊢
    have hh : c.has k = true := by unfold Cur.may at hm; simp only [Bool.and_eq_true] at hm; exact hm.2.1
    refine ⟨(Cur.has_parts hh).1, hm, ?_, Cur.take_b _ _⟩
    unfold Cur.take
    rw [if_pos hh]
  · rw [if_neg hm] at h
    cases h
theorem take_yes {c : Cur} {k : Int} (h : (c.take k).sp = false) : c.sp = false ∧ c.has k = true ∧ (c.take k).at_ = c.at_ + k.toNat ∧ (c.take k).b = c.b := by
  unfold Cur.take at h ⊢
  by_cases hm : c.has k = true
  · rw [if_pos hm] at h ⊢
    exact ⟨(Cur.has_parts hm).1, hm, rfl, rfl⟩
  · rw [if_neg hm] at h
    cases h
/-- An item that is there has four bytes at least. -/
theorem rdI_yes {g : Int} {c : Cur} (h : (rdI g c).2.sp = false) : c.sp = false ∧ c.at_ + 4 ≤ (rdI g c).2.at_ ∧ (rdI g c).2.b = c.b := by
  have key : ∀ c5 : Cur, c5.sp = false → (c5 = ((((c.get 1).get 1).get 2).take (c.val 1)).take (((c.get 1).get 1).val 2) ∨ c5 = ((((c.get 1).get 1).get 2).take (c.val 1)).get (tr g 4 8 8)) → c.sp = false ∧ c.at_ + 4 ≤ c5.at_ ∧ c5.b = c.b := by
    intro c5 h5 e
    have h4 : ((((c.get 1).get 1).get 2).take (c.val 1)).sp = false ∧ ((((c.get 1).get 1).get 2).take (c.val 1)).at_ ≤ c5.at_ ∧ c5.b = ((((c.get 1).get 1).get 2).take (c.val 1)).b := by
      rcases e with rfl | rfl
      · obtain ⟨a1, _, a2, a3⟩ := take_yes h5
        exact ⟨a1, by omega, a3⟩
      · obtain ⟨a1, _, a2, a3⟩ := get_yes h5
        exact ⟨a1, by omega, a3⟩
    obtain ⟨b1, _, b2, b3⟩ := take_yes h4.1
    obtain ⟨d1, _, d2, d3⟩ := get_yes b1
    obtain ⟨e1, _, e2, e3⟩ := get_yes d1
    obtain ⟨f1, _, f2, f3⟩ := get_yes e1
    refine ⟨f1, ?_, ?_⟩
    · have h2 : (2 : Int).toNat = 2 := rfl
      have h1 : (1 : Int).toNat = 1 := rfl
      omega
    · rw [h4.2.2, b3, d3, e3, f3]
  unfold rdI at h ⊢
  simp only at h ⊢
  split at h
  · rename_i h0
    rw [if_pos h0]
    exact key _ h (.inl rfl)
  · rename_i h0
    rw [if_neg h0]
    exact key _ h (.inr rfl)
theorem rdK_yes {g : Int} {c : Cur} (h : (rdK g c).2.sp = false) : c.sp = false ∧ c.at_ + 1 ≤ (rdK g c).2.at_ ∧ (rdK g c).2.b = c.b := by
  unfold rdK at h ⊢
  simp only at h ⊢
  obtain ⟨a1, _, a2, a3⟩ := get_yes h
  obtain ⟨b1, _, b2, b3⟩ := take_yes a1
  obtain ⟨d1, _, d2, d3⟩ := get_yes b1
  have h1 : (1 : Int).toNat = 1 := rfl
  exact ⟨d1, by omega, by rw [a3, b3, d3]⟩
theorem rdLoop_yes {α : Type} {f : Cur → α × Cur} {k : Nat} (hf : ∀ c, (f c).2.sp = false → c.sp = false ∧ c.at_ + k ≤ (f c).2.at_ ∧ (f c).2.b = c.b) : ∀ (n : Nat) (a : List α) (c : Cur), (rdLoop f n a c).2.sp = false →
    c.sp = false ∧ (rdLoop f n a c).2.b = c.b ∧ (rdLoop f n a c).1.length = a.length + n ∧ c.at_ + n * k ≤ (rdLoop f n a c).2.at_
  | 0, a, c, h => ⟨h, rfl, rfl, by rw [Nat.zero_mul]; exact Nat.le_refl _⟩
  | n + 1, a, c, h => by
    by_cases hc : c.sp = true
    · rw [rdLoop_sp f _ a hc] at h
      rw [hc] at h
      cases h
    · rw [rdLoop, if_neg hc] at h ⊢
      obtain ⟨h1, h2, h3, h4⟩ := rdLoop_yes hf n _ _ h
      obtain ⟨k1, k2, k3⟩ := hf c h1
      rw [Nat.succ_mul]
      refine ⟨k1, by rw [h2, k3], by rw [h3, List.length_append]; simp; omega, by omega⟩
theorem rdLoop_wf {α : Type} {f : Cur → α × Cur} (hf : ∀ c, c.WF → (f c).2.WF) : ∀ (n : Nat) (a : List α) (c : Cur), c.WF → (rdLoop f n a c).2.WF
  | 0, a, c, h => h
  | n + 1, a, c, h => by
    rw [rdLoop]
    split
    · exact h
    · exact rdLoop_wf hf n _ _ (hf c h)
theorem rdI_wf {g : Int} {c : Cur} (h : c.WF) : (rdI g c).2.WF := by
  unfold rdI
  simp only
  split
  · exact (((((h.get 1).get 1).get 2).take _).take _)
  · exact (((((h.get 1).get 1).get 2).take _).get _)
theorem rdK_wf {g : Int} {c : Cur} (h : c.WF) : (rdK g c).2.WF := ((h.get 1).take _).get _
/-- A node that was read to the end is small. -/
theorem rd_few {lf : Bool} {g : Int} {cnt : Nat} {b : Bytes} (hb : b.length ≤ 256) (h : (rdC lf g cnt b).sp = false) : (rdN lf g cnt b).its.length ≤ 1000 ∧ (rdN lf g cnt b).kds.length ≤ 1000 ∧ ((if lf = true then (rdN lf g cnt b).its.length else (rdN lf g cnt b).kds.length) = cnt) := by
  have w0 : (Cur.new b).WF := ⟨Nat.zero_le _, by show b.length ≤ _; omega⟩
  unfold rdC at h
  unfold rdN
  cases lf
  · simp only [Bool.false_eq_true, if_false] at h ⊢
    obtain ⟨_, h2, h3, h4⟩ := rdLoop_yes (f := rdK g) (k := 1) (fun c => rdK_yes) cnt [] (Cur.new b) h
    have h5 := (rdLoop_wf (f := rdK g) (fun c => rdK_wf) cnt [] (Cur.new b) w0).at_
    rw [h2] at h5
    simp only [Cur.new, List.length_nil] at h3 h4 h5 ⊢
    omega
  · simp only [if_true] at h ⊢
    obtain ⟨_, h2, h3, h4⟩ := rdLoop_yes (f := rdI g) (k := 4) (fun c => rdI_yes) cnt [] (Cur.new b) h
    have h5 := (rdLoop_wf (f := rdI g) (fun c => rdI_wf) cnt [] (Cur.new b) w0).at_
    rw [h2] at h5
    simp only [Cur.new, List.length_nil] at h3 h4 h5 ⊢
    omega
def isLf (b : Bytes) : Bool := decide (hdK b = 76)
/-- The node that a page's body tells. -/
def dcN (b : Bytes) : Nd := rdN (isLf b) (hdG b) (hdN b) (bodyOf b)
def dcC (b : Bytes) : Cur := rdC (isLf b) (hdG b) (hdN b) (bodyOf b)
/-- Is it what Encode makes of some node? -/
def DecOk (b : Bytes) : Prop := nhE b = 0 ∧ (dcC b).sp = false ∧ (RightN (hdG b) (dcN b) ∧ anyU (dcN b).its = false) ∧ pageB (hdG b) (dcN b) = b
def zeroN : Nd := ⟨false, [], []⟩
/-- What Decode answers. -/
def GaveD (w : World) (b : Bytes) (e : Ending) (w' : World) : Prop := ∃ ok : Bool, (ok = true ↔ DecOk b) ∧ ∃ (f : Bool) (A : Option Addr) (n c : Nat) (B : Option Addr) (m d : Nat), e = .returned (.tuple #[.int .i64 (if ok = true then (hdG b : Int) else 0), .agg #[.bool f, .slice A n c, .slice B m d], .int .i64 (if ok = true then 0 else if nhE b = 0 then 72 else nhE b)]) ∧
  Nod w' (if ok = true then dcN b else zeroN) f (.slice A n c) (.slice B m d) ∧ Only (w.heap.size ≤ ·) w w'
theorem zero_nod (w : World) : Nod w zeroN false (.slice none 0 0) (.slice none 0 0) := ⟨rfl, Rw.nil_ _, Rw.nil_ _⟩
theorem nd_only {F : Nat → Prop} {w wz : World} {q : Nat} {x y z : Value} (h : Only F w wz) (hq : F q) : Only F w (((wz.setCell ⟨q, 0, none⟩ x).setCell ⟨q, 1, none⟩ y).setCell ⟨q, 2, none⟩ z) :=
  ((h.setCell (p := ⟨q, 0, none⟩) hq _).setCell (p := ⟨q, 1, none⟩) hq _).setCell (p := ⟨q, 2, none⟩) hq _

/-- A generation and a node came back, or an error. -/
def GaveG (w : World) (g : Int) (x : Nd) (Q : Prop) (e : Ending) (w' : World) : Prop := ∃ ok : Bool, (ok = true ↔ Q) ∧ ∃ (f : Bool) (A : Option Addr) (n c : Nat) (B : Option Addr) (m d : Nat), e = .returned (.tuple #[.int .i64 (if ok = true then g else 0), .agg #[.bool f, .slice A n c, .slice B m d], .int .i64 (if ok = true then 0 else 72)]) ∧ Nod w' (if ok = true then x else zeroN) f (.slice A n c) (.slice B m d) ∧ Only (w.heap.size ≤ ·) w w'
theorem hdN_le (b : Bytes) : hdN b ≤ 65535 := by
  unfold hdN hdCnt Cur.val
  split
  · rename_i h
    have h1 := num_lt (Cur.got ((Cur.new (b.take (min b.length (tr ((hdG b : Nat) : Int) 8 16 16).toNat))).take 2) 2)
    have hh : Cur.has ((Cur.new (b.take (min b.length (tr ((hdG b : Nat) : Int) 8 16 16).toNat))).take 2) 2 = true := by
      unfold Cur.may at h
      simp only [Bool.and_eq_true] at h
      exact h.2.1
    rw [Cur.got_length hh] at h1
    have : 256 ^ (2 : Int).toNat = 65536 := by decide
    omega
  · omega
theorem body_len (b : Bytes) : (bodyOf b).length ≤ 256 := by
  unfold bodyOf
  split
  · rename_i h
    rw [List.length_drop]
    omega
  · exact Nat.zero_le _
end Go.Proofs.YtbgnfocfnjlabaaDoor
