/-
  Find.
-/
import Derived.Test.YtnjhpjpeeehagaaCmp
import Derived.Test.YtnjhpjpeeehagaaStb
set_option linter.unusedVariables false
namespace Go.Proofs.Ytnjhpjpeeehagaa
open Go.RowKit

/-- Where a key stands among the keys of items, and whether it is there. -/
def Found (l : List It) (key : Bytes) (i : Nat) (f : Bool) : Prop :=
  i ≤ l.length ∧ (i = 0 ∨ ∃ y, l[i - 1]? = some y ∧ cmp y.1 key < 0) ∧ (i = l.length ∨ ∃ y, l[i]? = some y ∧ 0 ≤ cmp y.1 key) ∧ (f = true ↔ ∃ y, l[i]? = some y ∧ cmp y.1 key = 0)
def FoundIn (w : World) (l : List It) (key : Bytes) (e : Ending) (w' : World) : Prop := ∃ (i : Nat) (f : Bool), e = .returned (.tuple #[.int .i64 i, .bool f]) ∧ Found l key i f ∧ Only (w.heap.size ≤ ·) w w'

set_option maxHeartbeats 1600000 in
theorem Find1_c (w : World) (P Q : Option Addr) (t p e q : Nat) (s r : Int) (v : Value) (xs ys : Bytes) (h : Src w (.slice P t p) xs) (h2 : Src w v ys) :
    Calls Try.prog 52 #[.agg #[.slice P t p, .slice Q e q, .int .i64 s, .int .i64 r], v] w (Told w (.int .i64 (cmp xs ys))) := by
  have HO : Hid (Only (w.heap.size ≤ ·) w (w.alloc (.cells #[.slice P t p, .slice Q e q, .int .i64 s, .int .i64 r] 39))) := (Only.refl _ w).alloc (fun _ h => h) _
  have HC := Lib.hid (Compare_c _ _ _ xs ys (h.later HO.out) (h2.later HO.out))
  clear h h2
  go_enter Try.func52, Try.ntmps52
  go_wp2_with (go_at_call 23; (with_reducible refine HC.out.mono ?_); rintro e w' ⟨rfl, rfl⟩)
  go_ret
  exact ⟨rfl, HO.out⟩

set_option maxRecDepth 100000 in
set_option maxHeartbeats 12800000 in
theorem BinS_c (w : World) (A : Option Addr) (n c : Nat) (v : Value) (l : List It) (key : Bytes) (h : Its w (.slice A n c) l) (hv : Src w v key) (hn : n ≤ 100000) :
    Calls Try.prog 51 #[.slice A n c, v, .func (.func 52) #[] #[]] w (FoundIn w l key) := by
  have hc := h.cap
  have HNL := Lib.hid h.len
  have HIT : Hid (∀ (k : Nat), k < n → ∃ (b off : Nat) (P Q : Option Addr) (t p e q : Nat) (s r : Int) (y : It) (z : Int), A = some ⟨b, off, none⟩ ∧ l[k]? = some y ∧ z = cmp y.1 key ∧
      (∀ W, Only (w.heap.size ≤ ·) w W → W.cell? ⟨b, off + k * 4, none⟩ = some (.slice P t p) ∧ W.cell? ⟨b, off + k * 4 + 1, none⟩ = some (.slice Q e q) ∧ W.cell? ⟨b, off + k * 4 + 2, none⟩ = some (.int .i64 s) ∧ W.cell? ⟨b, off + k * 4 + 3, none⟩ = some (.int .i64 r)) ∧
      (∀ W, Only (w.heap.size ≤ ·) w W → Calls Try.prog 52 #[.agg #[.slice P t p, .slice Q e q, .int .i64 s, .int .i64 r], v] W (Told W (.int .i64 z)))) := fun k hk => by
    obtain ⟨b, off, y, P, Q, p, q, e1, hb, hy, q0, q1, q2, q3, s1, s2⟩ := its_at h hk
    have g : ∀ W, Only (w.heap.size ≤ ·) w W → ∀ j u, w.cell? ⟨b, j, none⟩ = some u → W.cell? ⟨b, j, none⟩ = some u := fun W hW j u hu => (hW.cell (p := ⟨b, j, none⟩) (Nat.not_le.2 hb)).trans hu
    exact ⟨b, off, P, Q, _, p, _, q, _, _, y, _, e1, hy, rfl, fun W hW => ⟨g W hW _ _ q0, g W hW _ _ q1, g W hW _ _ q2, g W hW _ _ q3⟩, fun W hW => Find1_c W P Q _ p _ q _ _ v y.1 key (s1.later hW) (hv.later hW)⟩
  clear h hv
  go_enter Try.func51, Try.ntmps51
  go_wp2
  go_loopw [9, 10] (fun i j wr => ∃ (a b : Nat), a ≤ b ∧ b ≤ n ∧ i = .int .i64 a ∧ j = .int .i64 b ∧ Hid (a = 0 ∨ ∃ y, l[a - 1]? = some y ∧ cmp y.1 key < 0) ∧ Hid (b = n ∨ ∃ y, l[b]? = some y ∧ 0 ≤ cmp y.1 key) ∧ Only (w.heap.size ≤ ·) w wr) (fun i j _ => (intOf j).toNat - (intOf i).toNat)
  case atStart => exact ⟨0, n, Nat.zero_le _, Nat.le_refl _, rfl, rfl, Or.inl rfl, Or.inl rfl, Only.refl _ _⟩
  case round =>
    obtain ⟨a, b, hab, hbn, rfl, rfl, HA, HB, ho⟩ := hrel
    have HO := Lib.hid ho
    clear ho
    by_cases hlt : a < b
    · obtain ⟨m, hm⟩ : ∃ m, m = (a + b) / 2 := ⟨_, rfl⟩
      have hm1 : a ≤ m := by omega
      have hm2 : m < b := by omega
      have hlti : (a : Int) < (b : Int) := by omega
      have hq : ((a : Int) + (b : Int)) / 2 = (m : Int) := by omega
      obtain ⟨bb, off, P, Q, t, p, e, q, s, r, y, z, rfl, hy, hz, hcells, hcall⟩ := HIT.out m (by omega)
      have HY := Lib.hid (And.intro hy hz)
      have HC := Lib.hid hcall
      obtain ⟨q0, q1, q2, q3⟩ := hcells _ HO.out
      have j1 : (0 : Int) ≤ (m : Int) := by omega
      have j2 : (m : Int) < (n : Int) := by omega
      clear hm hy hz hcells hcall
      by_cases hz0 : z < 0
      · have HN : Hid (∃ y, l[m + 1 - 1]? = some y ∧ cmp y.1 key < 0) := ⟨y, by rw [Nat.add_sub_cancel]; exact HY.out.1, by rw [← HY.out.2]; exact hz0⟩
        go_wp2_with (go_at_call 52; (with_reducible refine (HC.out _ HO.out).mono ?_); rintro ee w3 ⟨rfl, ho⟩; have HO3 := Lib.hid (on_new HO.out ho); clear ho)
        go_roundw
        case rel => exact ⟨m + 1, b, by omega, by omega, by go_num, rfl, Lib.hid (.inr HN.out), HB, HO3.out⟩
        case measure => simp [intOf]; omega
      · have HN : Hid (∃ y, l[m]? = some y ∧ 0 ≤ cmp y.1 key) := ⟨y, HY.out.1, by rw [← HY.out.2]; omega⟩
        go_wp2_with (go_at_call 52; (with_reducible refine (HC.out _ HO.out).mono ?_); rintro ee w3 ⟨rfl, ho⟩; have HO3 := Lib.hid (on_new HO.out ho); clear ho)
        go_roundw
        case rel => exact ⟨a, m, by omega, by omega, rfl, rfl, HA, Lib.hid (.inr HN.out), HO3.out⟩
        case measure => simp [intOf]; omega
    · obtain rfl : a = b := by omega
      have hkm : ¬ (a : Int) < (a : Int) := by omega
      by_cases han : a < n
      · obtain ⟨bb, off, P, Q, t, p, e, q, s, r, y, z, rfl, hy, hz, hcells, hcall⟩ := HIT.out a han
        have HY := Lib.hid (And.intro hy hz)
        have HC := Lib.hid hcall
        obtain ⟨q0, q1, q2, q3⟩ := hcells _ HO.out
        have j1 : (0 : Int) ≤ (a : Int) := by omega
        have j2 : (a : Int) < (n : Int) := by omega
        clear hy hz hcells hcall
        by_cases hz0 : z = 0
        · have HZ := Lib.hid hz0
          have HF : Hid (Found l key a true) := ⟨by rw [← HNL.out]; omega, HA.out, .inr ⟨y, HY.out.1, by rw [← HY.out.2, HZ.out]; omega⟩, ⟨fun _ => ⟨y, HY.out.1, by rw [← HY.out.2, HZ.out]⟩, fun _ => rfl⟩⟩
          subst hz0
          go_wp2_with (go_at_call 52; (with_reducible refine (HC.out _ HO.out).mono ?_); rintro ee w3 ⟨rfl, ho⟩; have HO3 := Lib.hid (on_new HO.out ho); clear ho)
          go_ret2
          exact ⟨a, true, rfl, HF.out, HO3.out⟩
        · have HF : Hid (Found l key a false) := ⟨by rw [← HNL.out]; omega, HA.out, by rcases HB.out with h | h; exact .inl (by rw [h, HNL.out]); exact .inr h, ⟨fun h => (nomatch h), fun ⟨y', h1, h2⟩ => by
            obtain rfl := Option.some.inj (HY.out.1.symm.trans h1)
            exact absurd (by rw [HY.out.2]; exact h2) hz0⟩⟩
          have zb : (z == 0) = false := by simpa using hz0
          clear hz0
          go_wp2_with (go_at_call 52; (with_reducible refine (HC.out _ HO.out).mono ?_); rintro ee w3 ⟨rfl, ho⟩; have HO3 := Lib.hid (on_new HO.out ho); clear ho)
          go_ret2
          exact ⟨a, false, rfl, HF.out, HO3.out⟩
      · obtain rfl : n = a := by omega
        have HF : Hid (Found l key n false) := ⟨by rw [← HNL.out]; omega, HA.out, .inl HNL.out, ⟨fun h => (nomatch h), fun ⟨y', h1, h2⟩ => by
          have := (List.getElem?_eq_some_iff.1 h1).1
          rw [← HNL.out] at this
          omega⟩⟩
        go_wp2
        go_ret2
        exact ⟨n, false, rfl, HF.out, HO.out⟩

set_option maxRecDepth 100000 in
set_option maxHeartbeats 3200000 in
theorem Find_n (w : World) (f : Bool) (A B : Option Addr) (n c m d : Nat) (v : Value) (x : Nd) (key : Bytes) (h : Nod w x f (.slice A n c) (.slice B m d)) (hv : Src w v key) (hn : n ≤ 100000) :
    Calls Try.prog 45 #[.agg #[.bool f, .slice A n c, .slice B m d], v] w (FoundIn w x.its key) := by
  have HO : Hid (Only (w.heap.size ≤ ·) w (w.alloc (.cells #[.bool f, .slice A n c, .slice B m d] 55))) := (Only.refl _ w).alloc (fun _ h => h) _
  have HC := Lib.hid (BinS_c _ A n c v x.its key (h.2.1.later HO.out) (hv.later HO.out) hn)
  clear h hv
  go_enter Try.func45, Try.ntmps45
  go_wp2_with (go_at_call 51; (with_reducible refine HC.out.mono ?_); rintro e w1 ⟨i, b, rfl, hf, ho⟩; have HF := Lib.hid hf; have HO2 := Lib.hid (on_new HO.out ho); clear hf ho)
  go_ret2
  exact ⟨i, b, rfl, HF.out, HO2.out⟩
end Go.Proofs.Ytnjhpjpeeehagaa
