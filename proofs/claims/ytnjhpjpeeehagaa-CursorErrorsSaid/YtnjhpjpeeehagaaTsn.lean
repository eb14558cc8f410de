/-
  Spans of keys; keys that rise in a span.
-/
import Derived.Test.YtnjhpjpeeehagaaTgt
set_option linter.unusedVariables false
namespace Go.Proofs.Ytnjhpjpeeehagaa
open Go.RowKit

abbrev Sn := Bytes × Option Bytes
/-- A span's value. -/
def SnV (w : World) (sp : Sn) (u v : Value) (b : Bool) : Prop := Src w u sp.1 ∧ b = sp.2.isSome ∧ Src w v (sp.2.getD [])
theorem SnV.later {w w' : World} {sp : Sn} {u v : Value} {b : Bool} (h : SnV w sp u v b) (ho : Only (w.heap.size ≤ ·) w w') : SnV w' sp u v b := ⟨h.1.later ho, h.2.1, h.2.2.later ho⟩
def hasS (sp : Sn) (key : Bytes) : Bool := decide (0 ≤ cmp key sp.1) && (match sp.2 with | none => true | some h => decide (cmp key h < 0))
set_option maxRecDepth 100000 in
set_option maxHeartbeats 6400000 in
theorem Has_c (w : World) (L H K : Option Addr) (ln lc hn hc kn kc : Nat) (b : Bool) (sp : Sn) (key : Bytes) (h : SnV w sp (.slice L ln lc) (.slice H hn hc) b) (hk : Src w (.slice K kn kc) key) :
    Calls Try.prog 58 #[.agg #[.slice L ln lc, .slice H hn hc, .bool b], .slice K kn kc] w (Told w (.bool (hasS sp key))) := by
  obtain ⟨w1, hw1⟩ : ∃ x, x = w.alloc (.cells #[.slice L ln lc, .slice H hn hc, .bool b] 93) := ⟨_, rfl⟩
  obtain ⟨b1, hb1⟩ : ∃ x, x = w.heap.size := ⟨_, rfl⟩
  have Hb1 : Hid (Blk w1 b1 93 [.slice L ln lc, .slice H hn hc, .bool b]) := Lib.hid (by rw [hw1, hb1]; exact Blk.new w _ [.slice L ln lc, .slice H hn hc, .bool b])
  have HXb1 : Hid (Only (w.heap.size ≤ ·) w w1) := Lib.hid (by rw [hw1]; exact (Only.refl _ w).alloc (fun _ h => h) _)
  have HEQb1 : Hid (w1 = w.alloc (.cells #[.slice L ln lc, .slice H hn hc, .bool b] 93) ∧ b1 = w.heap.size) := Lib.hid ⟨hw1, hb1⟩
  clear hw1 hb1
  have HC1 := Lib.hid (Compare_c w1 _ _ key sp.1 (hk.later HXb1.out) (h.1.later HXb1.out))
  have HC2 := Lib.hid (Compare_c w1 _ _ key (sp.2.getD []) (hk.later HXb1.out) (h.2.2.later HXb1.out))
  have HBS := Lib.hid h.2.1
  obtain ⟨z1, hz1⟩ : ∃ z, z = cmp key sp.1 := ⟨_, rfl⟩
  obtain ⟨z2, hz2⟩ : ∃ z, z = cmp key (sp.2.getD []) := ⟨_, rfl⟩
  have HR : Hid (hasS sp key = (decide (0 ≤ z1) && (if b = true then decide (z2 < 0) else true))) := Lib.hid (by
    obtain ⟨lo, hi⟩ := sp
    unfold hasS
    rw [hz1, hz2, HBS.out]
    cases hi <;> simp)
  rw [← hz1] at HC1
  rw [← hz2] at HC2
  clear h hk hz1 hz2
  go_enter Try.func58, Try.ntmps58
  go_upto_region 1 with (fail)
  rw [← HEQb1.out.1, ← HEQb1.out.2]
  obtain ⟨q0, q1, q2⟩ := Hb1.out.tri
  by_cases h1 : 0 ≤ z1
  · cases b with
    | false =>
      go_wp2_with (first
        | (go_at_call 23; refine HC1.out.mono ?_; rintro e w' ⟨rfl, rfl⟩)
        | (go_at_call 23; refine HC2.out.mono ?_; rintro e w' ⟨rfl, rfl⟩))
      go_ret
      exact ⟨by rw [HR.out]; simp [h1], HXb1.out⟩
    | true =>
      go_wp2_with (first
        | (go_at_call 23; refine HC1.out.mono ?_; rintro e w' ⟨rfl, rfl⟩)
        | (go_at_call 23; refine HC2.out.mono ?_; rintro e w' ⟨rfl, rfl⟩))
      go_ret
      exact ⟨by rw [HR.out]; simp [h1], HXb1.out⟩
  · have h1' : z1 < 0 := by omega
    go_wp2_with (first
      | (go_at_call 23; refine HC1.out.mono ?_; rintro e w' ⟨rfl, rfl⟩)
      | (go_at_call 23; refine HC2.out.mono ?_; rintro e w' ⟨rfl, rfl⟩))
    go_ret
    exact ⟨by rw [HR.out, decide_eq_false (show ¬ 0 ≤ z1 by omega), Bool.false_and]; rfl, HXb1.out⟩

/-- Bytes in a row. -/
def byE : El Bytes where
  z := 1
  At w x cs := ∃ A c, cs = [.slice A x.length c] ∧ Src w (.slice A x.length c) x
  len := fun ⟨A, c, e, _⟩ => by rw [e]; rfl
  one := fun ⟨A, c, e, _⟩ u hu => by
    rw [e] at hu
    simp at hu
    rw [hu]
    rfl
  later := fun ⟨A, c, e, h1⟩ ho => ⟨A, c, e, h1.later ho⟩
abbrev Bys := Rw byE
theorem bys_at {w : World} {A : Option Addr} {n c k : Nat} {l : List Bytes} (h : Bys w (.slice A n c) l) (hk : k < n) : ∃ (b off : Nat) (x : Bytes) (P : Option Addr) (p : Nat), A = some ⟨b, off, none⟩ ∧ b < w.heap.size ∧ l[k]? = some x ∧ w.cell? ⟨b, off + k, none⟩ = some (.slice P x.length p) ∧ Src w (.slice P x.length p) x := by
  obtain ⟨b, off, x, cs, e, hb, hx, ⟨P, p, rfl, h1⟩, hc⟩ := Rw.at_ (E := byE) (by decide) h hk
  exact ⟨b, off, x, P, p, e, hb, hx, by have := hc 0 _ rfl; simpa [byE] using this, h1⟩
/-- Each key is in the span, and above the one ahead. -/
def RisesP (sp : Sn) (l : List Bytes) : Prop := ∀ (k : Nat) y, l[k]? = some y → hasS sp y = true ∧ ∀ q, 0 < k → l[k - 1]? = some q → cmp q y < 0
def RiseSays (w : World) (sp : Sn) (l : List Bytes) (e : Ending) (w' : World) : Prop := (∃ r : Bool, e = .returned (.bool r) ∧ (r = true ↔ RisesP sp l)) ∧ Only (w.heap.size ≤ ·) w w'
set_option maxRecDepth 100000 in
set_option maxHeartbeats 6400000 in
theorem Rises_c (w : World) (A L H : Option Addr) (n c ln lc hn hc : Nat) (b : Bool) (sp : Sn) (l : List Bytes) (h : Bys w (.slice A n c) l) (hs : SnV w sp (.slice L ln lc) (.slice H hn hc) b) :
    Calls Try.prog 55 #[.slice A n c, .agg #[.slice L ln lc, .slice H hn hc, .bool b]] w (RiseSays w sp l) := by
  have hcap := h.cap
  have HNL := Lib.hid h.len
  obtain ⟨w1, hw1⟩ : ∃ x, x = w.alloc (.cells #[.slice L ln lc, .slice H hn hc, .bool b] 93) := ⟨_, rfl⟩
  obtain ⟨b1, hb1⟩ : ∃ x, x = w.heap.size := ⟨_, rfl⟩
  have Hb1 : Hid (Blk w1 b1 93 [.slice L ln lc, .slice H hn hc, .bool b]) := Lib.hid (by rw [hw1, hb1]; exact Blk.new w _ [.slice L ln lc, .slice H hn hc, .bool b])
  have HXb1 : Hid (Only (w.heap.size ≤ ·) w w1) := Lib.hid (by rw [hw1]; exact (Only.refl _ w).alloc (fun _ h => h) _)
  have HEQb1 : Hid (w1 = w.alloc (.cells #[.slice L ln lc, .slice H hn hc, .bool b] 93) ∧ b1 = w.heap.size) := Lib.hid ⟨hw1, hb1⟩
  clear hw1 hb1
  have HK := Lib.hid (h.later HXb1.out)
  have HS := Lib.hid (hs.later HXb1.out)
  clear h hs
  go_enter Try.func55, Try.ntmps55
  go_upto_region 1 with (fail)
  rw [← HEQb1.out.1, ← HEQb1.out.2]
  go_wp2_with (fail)
  go_loopg [9] n (fun gk i wr => ∃ k : Nat, gk = n - k ∧ k ≤ n ∧ i = .int .i64 (k : Int) ∧ Hid (∀ (j : Nat) y, j < k → l[j]? = some y → hasS sp y = true ∧ ∀ q, 0 < j → l[j - 1]? = some q → cmp q y < 0) ∧ Hid (Only (w1.heap.size ≤ ·) w1 wr))
  case atStart => exact ⟨0, rfl, Nat.zero_le _, rfl, Lib.hid (fun j y h => by omega), Lib.hid (Only.refl _ _)⟩
  case round =>
    obtain ⟨k, rfl, hk, rfl, HI, HO⟩ := hrel
    by_cases hlt : k < n
    · have hlt' : (k : Int) < (n : Int) := by omega
      obtain ⟨bb, off, y, P, p, rfl, hb, hy, c0, hsy⟩ := bys_at (HK.out.later HO.out) hlt
      have HY := Lib.hid hy
      have HSY := Lib.hid hsy
      replace HB := Lib.hid (Hb1.out.later HO.out)
      obtain ⟨q0, q1, q2⟩ := HB.out.tri
      have HHS := Lib.hid (Has_c wr L H P ln lc hn hc y.length p b sp y (HS.out.later HO.out) hsy)
      obtain ⟨r, hr⟩ : ∃ r, r = hasS sp y := ⟨_, rfl⟩
      rw [← hr] at HHS
      have HR := Lib.hid hr
      clear hy hsy hr
      cases r with
      | false =>
        go_wp2_with (go_at_call 58; (with_reducible refine HHS.out.mono ?_); rintro e w2 ⟨rfl, ho⟩; have HO2 := Lib.hid (on_new HO.out ho); clear ho)
        go_ret
        exact ⟨⟨false, rfl, ⟨(fun h => nomatch h), fun h => by have := (h k y HY.out).1; rw [← HR.out] at this; cases this⟩⟩, on_new HXb1.out HO2.out⟩
      | true =>
        by_cases hk0 : k = 0
        · have hk0' : ¬ (0 : Int) < (k : Int) := by omega
          have HK0 := Lib.hid hk0
          clear hk0
          go_wp2_with (go_at_call 58; (with_reducible refine HHS.out.mono ?_); rintro e w2 ⟨rfl, ho⟩; have HO2 := Lib.hid (on_new HO.out ho); clear ho)
          go_roundg (n - (k + 1))
          case measure => omega
          case rel => exact ⟨k + 1, rfl, by omega, by go_num, Lib.hid (fun j y' hj hy' => by
            obtain rfl : j = k := by have := HK0.out; omega
            rw [HY.out] at hy'
            cases hy'
            exact ⟨HR.out.symm, fun q h => by have := HK0.out; omega⟩), HO2⟩
        · obtain ⟨j, rfl⟩ : ∃ j, k = j + 1 := ⟨k - 1, by omega⟩
          have hj0 : (0 : Int) < ((j + 1 : Nat) : Int) := by omega
          have hjn : (((j + 1 : Nat) : Int) - 1) = (j : Int) := by omega
          obtain ⟨bb', off', q, P2, p2, e2, hb2, hq, d0, hsq⟩ := bys_at (HK.out.later HO.out) (k := j) (by omega)
          simp only [Option.some.injEq, Addr.mk.injEq, and_true] at e2
          obtain ⟨rfl, rfl⟩ := e2
          have HQ := Lib.hid hq
          have HSQ := Lib.hid hsq
          obtain ⟨z, hz⟩ : ∃ z, z = cmp q y := ⟨_, rfl⟩
          have HZ := Lib.hid hz
          have hjlt : (j : Int) < (n : Int) := by omega
          have hj63 : j ≤ 9223372036854775806 := by omega
          clear hq hsq hz
          by_cases hz0 : z < 0
          · have hz0' : ¬ 0 ≤ z := by omega
            go_wp2_with (first
              | (go_at_call 58; (with_reducible refine HHS.out.mono ?_); rintro e w2 ⟨rfl, ho⟩; have HO2 := Lib.hid (on_new HO.out ho); have HCC : Hid (Calls Try.prog 23 #[.slice P2 q.length p2, .slice P y.length p] w2 fun e w' => e = .returned (.int .i64 z) ∧ w2 = w') := Lib.hid (by rw [HZ.out]; exact Compare_c w2 _ _ q y (HSQ.out.later ho) (HSY.out.later ho)); replace d0 := (ho.cell (p := ⟨bb, off + j, none⟩) (by simp only; omega)).trans d0; clear ho)
              | (go_at_call 23; refine HCC.out.mono ?_; rintro e w' ⟨rfl, rfl⟩))
            go_roundg (n - (j + 1 + 1))
            case measure => omega
            case rel => exact ⟨j + 1 + 1, rfl, by omega, by go_num, Lib.hid (fun i y' hi hy' => by
              rcases Nat.lt_or_ge i (j + 1) with h1 | h1
              · exact HI.out i y' h1 hy'
              · obtain rfl : i = j + 1 := by omega
                rw [HY.out] at hy'
                cases hy'
                refine ⟨HR.out.symm, fun q' _ hq' => ?_⟩
                rw [Nat.add_sub_cancel, HQ.out] at hq'
                cases hq'
                rw [← HZ.out]
                exact hz0), HO2⟩
          · have hz0' : 0 ≤ z := by omega
            go_wp2_with (first
              | (go_at_call 58; (with_reducible refine HHS.out.mono ?_); rintro e w2 ⟨rfl, ho⟩; have HO2 := Lib.hid (on_new HO.out ho); have HCC : Hid (Calls Try.prog 23 #[.slice P2 q.length p2, .slice P y.length p] w2 fun e w' => e = .returned (.int .i64 z) ∧ w2 = w') := Lib.hid (by rw [HZ.out]; exact Compare_c w2 _ _ q y (HSQ.out.later ho) (HSY.out.later ho)); replace d0 := (ho.cell (p := ⟨bb, off + j, none⟩) (by simp only; omega)).trans d0; clear ho)
              | (go_at_call 23; refine HCC.out.mono ?_; rintro e w' ⟨rfl, rfl⟩))
            go_ret
            exact ⟨⟨false, rfl, ⟨(fun h => nomatch h), fun h => by
              have := (h (j + 1) y HY.out).2 q (by omega) (by rw [Nat.add_sub_cancel]; exact HQ.out)
              rw [← HZ.out] at this
              omega⟩⟩, on_new HXb1.out HO2.out⟩
    · obtain rfl : k = n := by omega
      have hkm : ¬ (k : Int) < (k : Int) := by omega
      go_wp2_with (fail)
      go_ret
      exact ⟨⟨true, rfl, ⟨fun _ j y hy => HI.out j y (by rw [HNL.out]; exact (List.getElem?_eq_some_iff.1 hy).1) hy, fun _ => rfl⟩⟩, on_new HXb1.out HO.out⟩
end Go.Proofs.Ytnjhpjpeeehagaa
