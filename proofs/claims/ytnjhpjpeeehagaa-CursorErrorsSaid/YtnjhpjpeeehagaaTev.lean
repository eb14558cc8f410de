/-
  What All has found; even.
-/
import Derived.Test.YtnjhpjpeeehagaaTsv
import Derived.Deep.QuietTactic
import Derived.BigQuiet
import Derived.Maps.OwnSet
set_option linter.unusedVariables false
namespace Go.Proofs.Ytnjhpjpeeehagaa
open Go.RowKit

/-- What All has found. -/
structure Sv where
  its : List It
  refs : List Int
  dep : Nat
def risesB (sp : Sn) : List Bytes → Bool
  | [] => true
  | [k] => hasS sp k
  | k :: q :: l => hasS sp k && decide (cmp k q < 0) && risesB sp (q :: l)
theorem risesB_iff (sp : Sn) : ∀ l : List Bytes, risesB sp l = true ↔ RisesP sp l
  | [] => ⟨fun _ k y h => by simp at h, fun _ => rfl⟩
  | [x] => by
    unfold risesB RisesP
    constructor
    · intro h k y hy
      cases k with
      | zero =>
        simp at hy
        subst hy
        exact ⟨h, fun q h0 => absurd h0 (by decide)⟩
      | succ k => simp at hy
    · intro h
      exact (h 0 x rfl).1
  | x :: z :: l => by
    have ih := risesB_iff sp (z :: l)
    unfold risesB
    rw [Bool.and_eq_true, Bool.and_eq_true, ih, decide_eq_true_eq]
    constructor
    · rintro ⟨⟨h1, h2⟩, h3⟩ k y hy
      cases k with
      | zero =>
        simp at hy
        subst hy
        exact ⟨h1, fun q h0 => absurd h0 (by decide)⟩
      | succ k =>
        have hy' : (z :: l)[k]? = some y := by simpa using hy
        obtain ⟨a, b⟩ := h3 k y hy'
        refine ⟨a, fun q _ hq => ?_⟩
        cases k with
        | zero =>
          simp at hq hy'
          subst hq hy'
          exact h2
        | succ k => exact b q (by omega) (by simpa using hq)
    · intro h
      refine ⟨⟨(h 0 x rfl).1, (h 1 z rfl).2 x (by omega) rfl⟩, fun k y hy => ?_⟩
      obtain ⟨a, b⟩ := h (k + 1) y (by simpa using hy)
      refine ⟨a, fun q hk hq => ?_⟩
      obtain ⟨j, rfl⟩ : ∃ j, k = j + 1 := ⟨k - 1, by omega⟩
      exact b q (by omega) (by simpa using hq)
def formB (x : Nd) (dp : Nat) (sp : Sn) : Bool := if x.leaf = true then x.kds.isEmpty && (!x.its.isEmpty || decide (dp = 1)) && risesB sp (x.its.map (·.1)) else x.its.isEmpty && decide (1 < x.kds.length) && risesB sp ((x.kds.drop 1).map (·.1))
theorem formB_iff (x : Nd) (dp : Nat) (sp : Sn) : formB x dp sp = true ↔ FormP x dp sp := by
  unfold formB FormP
  split
  · rw [Bool.and_eq_true, Bool.and_eq_true, risesB_iff, Bool.or_eq_true, List.isEmpty_iff, decide_eq_true_eq, and_assoc]
    have h1 : (!x.its.isEmpty) = true ↔ x.its ≠ [] := by cases x.its <;> simp
    have h2 : ((dp : Int) = 1) ↔ dp = 1 := by omega
    rw [h1, h2]
  · rw [Bool.and_eq_true, Bool.and_eq_true, risesB_iff, List.isEmpty_iff, decide_eq_true_eq, and_assoc]
/-- How deep leaves are, a node more. -/
def depP (x : Nd) (dp dep : Nat) : Nat := if x.leaf = true ∧ dep = 0 then dp else dep
def evenB (x : Nd) (dp dep : Nat) : Bool := !x.leaf || decide (depP x dp dep = dp)
/-- What meet makes of it. -/
def meetP (l : List Nm) (dp : Nat) (ref : Int) (sp : Sn) (S : Sv) : Int × Option (Nd × Sv) :=
  if 12 < dp then (130, none) else match nodeP l ref with
    | none => (11, none)
    | some x => if decide (ref ∈ S.refs) || !formB x dp sp || !evenB x dp S.dep then (131, none) else (0, some (x, ⟨S.its ++ x.its, S.refs ++ [ref], depP x dp S.dep⟩))
/-- The kids from one on, so many. -/
def kidsP (g : Int → Sn → Sv → Int × Sv) (l : List Kd) (sp : Sn) : Nat → Nat → Sv → Int × Sv
  | _, 0, S => (0, S)
  | k, m + 1, S => if (g (l.getD k ([], 0)).2 (underP sp l k) S).1 = 0 then kidsP g l sp (k + 1) m (g (l.getD k ([], 0)).2 (underP sp l k) S).2 else g (l.getD k ([], 0)).2 (underP sp l k) S
/-- All below a node: so many floors at most are left. -/
def visitP (l : List Nm) : Nat → Int → Sn → Sv → Int × Sv
  | 0, _, _, S => (130, S)
  | f + 1, ref, sp, S => match (meetP l (12 - f) ref sp S).2 with
    | none => ((meetP l (12 - f) ref sp S).1, S)
    | some q => kidsP (visitP l f) q.1.kds sp 0 q.1.kds.length q.2
def allP (l : List Nm) (root : Int) : Int × Sv := visitP l 12 root ([], none) ⟨[], [], 0⟩

def EvenSays (w : World) (bs : Nat) (s0 : Value) (mb : Nat) (vI vR : Value) (x : Nd) (dp dep : Nat) (e : Ending) (w' : World) : Prop :=
  e = .returned (.bool (evenB x dp dep)) ∧ Blk w' bs 90 [s0, .map (some mb), vI, vR, .int .i64 (depP x dp dep : Int)] ∧ Only (fun j => j = bs ∨ w.heap.size ≤ j) w w'
set_option maxRecDepth 100000 in
set_option maxHeartbeats 12800000 in
theorem Even_c (w : World) (bs mb : Nat) (s0 : Value) (IA RA : Option Addr) (ni ic nr rc : Nat) (f : Bool) (A B L H : Option Addr) (n c m d ln lc hn hc : Nat) (b : Bool) (dp dep : Nat) (x : Nd) (hS : Blk w bs 90 [s0, .map (some mb), .slice IA ni ic, .slice RA nr rc, .int .i64 (dep : Int)]) (hx : f = x.leaf) :
    Calls Try.prog 50 #[.pointer (some ⟨bs, 0, none⟩), .agg #[.bool f, .slice A n c, .slice B m d], .agg #[.int .i64 (dp : Int), .slice L ln lc, .slice H hn hc, .bool b]] w (EvenSays w bs s0 mb (.slice IA ni ic) (.slice RA nr rc) x dp dep) := by
  obtain ⟨w1, hw1⟩ : ∃ x, x = w.alloc (.cells #[.bool f, .slice A n c, .slice B m d] 55) := ⟨_, rfl⟩
  obtain ⟨b1, hb1⟩ : ∃ x, x = w.heap.size := ⟨_, rfl⟩
  have Hb1 : Hid (Blk w1 b1 55 [.bool f, .slice A n c, .slice B m d]) := Lib.hid (by rw [hw1, hb1]; exact Blk.new w _ [.bool f, .slice A n c, .slice B m d])
  have HXb1 : Hid (Only (w.heap.size ≤ ·) w w1) := Lib.hid (by rw [hw1]; exact (Only.refl _ w).alloc (fun _ h => h) _)
  have HEQb1 : Hid (w1 = w.alloc (.cells #[.bool f, .slice A n c, .slice B m d] 55) ∧ b1 = w.heap.size) := Lib.hid ⟨hw1, hb1⟩
  clear hw1 hb1
  obtain ⟨w2, hw2⟩ : ∃ x, x = w1.alloc (.cells #[.int .i64 (dp : Int), .slice L ln lc, .slice H hn hc, .bool b] 95) := ⟨_, rfl⟩
  obtain ⟨b2, hb2⟩ : ∃ x, x = w1.heap.size := ⟨_, rfl⟩
  have Hb2 : Hid (Blk w2 b2 95 [.int .i64 (dp : Int), .slice L ln lc, .slice H hn hc, .bool b]) := Lib.hid (by rw [hw2, hb2]; exact Blk.new w1 _ [.int .i64 (dp : Int), .slice L ln lc, .slice H hn hc, .bool b])
  have HXb2 : Hid (Only (w1.heap.size ≤ ·) w1 w2) := Lib.hid (by rw [hw2]; exact (Only.refl _ w1).alloc (fun _ h => h) _)
  have HEQb2 : Hid (w2 = w1.alloc (.cells #[.int .i64 (dp : Int), .slice L ln lc, .slice H hn hc, .bool b] 95) ∧ b2 = w1.heap.size) := Lib.hid ⟨hw2, hb2⟩
  clear hw2 hb2
  have HB2E : Hid (b2 = b1 + 1) := Lib.hid (by rw [HEQb2.out.2, HEQb1.out.1, HEQb1.out.2]; simp)
  have HO := Lib.hid (on_new HXb1.out HXb2.out)
  have HB1 := Lib.hid (Hb1.out.later HXb2.out)
  have HS := Lib.hid (hS.later HO.out)
  have HBN : Hid (bs < b1 ∧ w.heap.size ≤ b1) := Lib.hid (by have := hS.lt; have := HEQb1.out.2; omega)
  have HOO : Hid (Only (fun j => j = bs ∨ w.heap.size ≤ j) w w2) := Lib.hid (HO.out.mono fun j hj => .inr hj)
  have HX0 := Lib.hid hx
  clear hS hx
  go_enter Try.func50, Try.ntmps50
  go_upto_region 1 with (fail)
  rw [← HEQb1.out.1, ← HEQb1.out.2, ← HEQb2.out.1, ← HB2E.out]
  obtain ⟨q0, q1, q2⟩ := HB1.out.tri
  obtain ⟨r0, r1, r2, r3⟩ := Hb2.out.four
  have s4 := HS.out.cell 4
  have f4 := HS.out.frozen 4
  cases f with
  | false =>
    have HX : Hid (x.leaf = false) := Lib.hid HX0.out.symm
    have HD : Hid (depP x dp dep = dep ∧ evenB x dp dep = true) := Lib.hid ⟨by unfold depP; rw [if_neg (fun h => by rw [HX.out] at h; cases h.1)], by unfold evenB; rw [HX.out]; rfl⟩
    clear HX0
    go_wp2_with (fail)
    go_quiet (fail)
    go_wp2_with (fail)
    go_ret
    rw [EvenSays, HD.out.1, HD.out.2]
    exact ⟨rfl, HS.out.drewN _, HOO.out.drewN _⟩
  | true =>
    have HX : Hid (x.leaf = true) := Lib.hid HX0.out.symm
    clear HX0
    cases dep with
    | zero =>
      have HD : Hid (depP x dp 0 = dp ∧ evenB x dp 0 = true) := Lib.hid (by
        have h : depP x dp 0 = dp := by unfold depP; rw [if_pos ⟨HX.out, rfl⟩]
        exact ⟨h, by unfold evenB; rw [h]; simp⟩)
      have HS3 : Hid (Blk (w2.setCell ⟨bs, 4, none⟩ (.int .i64 (dp : Int))) bs 90 [s0, .map (some mb), .slice IA ni ic, .slice RA nr rc, .int .i64 (dp : Int)]) := Lib.hid (HS.out.set_ 4 _)
      have HO3 : Hid (Only (fun j => j = bs ∨ w.heap.size ≤ j) w (w2.setCell ⟨bs, 4, none⟩ (.int .i64 (dp : Int)))) := Lib.hid (HOO.out.setCell (p := ⟨bs, 4, none⟩) (.inl rfl) _)
      have HB13 := Lib.hid (HB1.out.far (p := ⟨bs, 4, none⟩) (by have := HBN.out; simp only; omega) (.int .i64 (dp : Int)))
      have HB23 := Lib.hid (Hb2.out.far (p := ⟨bs, 4, none⟩) (by have := HBN.out; have := HB2E.out; simp only; omega) (.int .i64 (dp : Int)))
      go_upto_region 3 with (fail)
      generalize hw3 : w2.setCell ⟨bs, 4, none⟩ (.int .i64 (dp : Int)) = w3 at HS3 HO3 HB13 HB23 ⊢
      clear hw3 q0 q1 q2 r0 r1 r2 r3 s4 f4
      obtain ⟨q0, q1, q2⟩ := HB13.out.tri
      obtain ⟨r0, r1, r2, r3⟩ := HB23.out.four
      have s4 := HS3.out.cell 4
      go_quiet (fail)
      go_wp2_with (fail)
      go_ret
      rw [EvenSays, HD.out.1, HD.out.2]
      exact ⟨by simp, HS3.out.drewN _, HO3.out.drewN _⟩
    | succ dep =>
      have z1 : ¬ ((dep : Int) + 1 = 0) := by omega
      have HD : Hid (depP x dp (dep + 1) = dep + 1 ∧ evenB x dp (dep + 1) = decide (((dep + 1 : Nat) : Int) = (dp : Int))) := Lib.hid (by
        have h : depP x dp (dep + 1) = dep + 1 := by unfold depP; rw [if_neg (fun h => by omega)]
        refine ⟨h, ?_⟩
        unfold evenB
        rw [h, HX.out]
        simp only [Bool.not_true, Bool.false_or]
        exact decide_eq_decide.2 (by omega))
      go_upto_region 3 with (fail)
      go_quiet (fail)
      go_wp2_with (fail)
      go_ret
      rw [EvenSays, HD.out.1, HD.out.2]
      exact ⟨by first | rfl | simp, HS.out.drewN _, HOO.out.drewN _⟩
end Go.Proofs.Ytnjhpjpeeehagaa
