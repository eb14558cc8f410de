/-
  slices.EqualFunc of rows of pages.
-/
import Derived.Test.YtbgnfocfnjlabaaDoorLnk
set_option linter.unusedVariables false
namespace Go.Proofs.YtbgnfocfnjlabaaDoor
open Go.RowKit

def pgE : El Bytes where
  z := 1
  At w x cs := ∃ A c, cs = [.slice A x.length c] ∧ Src w (.slice A x.length c) x
  len := fun ⟨A, c, e, _⟩ => by rw [e]; rfl
  one := fun ⟨A, c, e, _⟩ u hu => by
    rw [e] at hu
    simp at hu
    rw [hu]
    rfl
  later := fun ⟨A, c, e, h⟩ ho => ⟨A, c, e, h.later ho⟩
theorem Pgs.rw_ {b : Nat} {w : World} {v : Value} {xs : List Bytes} (h : Pgs b w v xs) : Rw pgE w v xs := by
  obtain ⟨C, h1, h2⟩ := h
  obtain ⟨A, c, rfl, hr, h4, h5, h6, _⟩ := raw_of_own h1
  exact ⟨A, c, C, rfl, h2.mono fun x cs ⟨A, c, e, hn, _⟩ => ⟨A, c, e, hn.src⟩, hr, h4, h5, h6⟩
theorem pg_at {w : World} {A : Option Addr} {n c k : Nat} {l : List Bytes} (h : Rw pgE w (.slice A n c) l) (hk : k < n) : ∃ b off x P p, A = some ⟨b, off, none⟩ ∧ b < w.heap.size ∧ l[k]? = some x ∧ w.cell? ⟨b, off + k, none⟩ = some (.slice P x.length p) ∧ Src w (.slice P x.length p) x := by
  obtain ⟨b, off, x, cs, e, hb, hx, ⟨P, p, rfl, h1⟩, hc⟩ := Rw.at_ (E := pgE) (by decide) h hk
  have := hc 0 _ rfl
  rw [show off + (k * pgE.z + 0) = off + k by show off + (k * 1 + 0) = _; omega] at this
  exact ⟨b, off, x, P, p, e, hb, hx, this, h1⟩

set_option maxRecDepth 100000 in
set_option maxHeartbeats 3200000 in
theorem SEqualFunc_c (w : World) (A B : Option Addr) (n c m d : Nat) (xs ys : List Bytes) (h : Rw pgE w (.slice A n c) xs) (h' : Rw pgE w (.slice B m d) ys) (hn : n ≤ 1000000) :
    Calls Tryd.prog 83 #[.slice A n c, .slice B m d, .func (.func 16) #[] #[]] w (Told w (.bool (decide (xs = ys)))) := by
  have hl := h.len
  have hl' := h'.len
  by_cases hnm : n = m
  · subst hnm
    have HA := Lib.hid h
    have HB := Lib.hid h'
    have hc1 := h.cap
    have hc2 := h'.cap
    have HL := Lib.hid hl
    have HL' := Lib.hid hl'
    clear h h' hl hl'
    go_enter Tryd.func83, Tryd.ntmps83
    go_wp2
    go_loopw [17] (fun i wr => ∃ (k : Nat), k ≤ n ∧ i = .int .i64 k ∧ Hid (∀ j, j < k → xs[j]? = ys[j]?) ∧ Only (w.heap.size ≤ ·) w wr) (fun i _ => n - (intOf i).toNat)
    case atStart => exact ⟨0, Nat.zero_le _, rfl, fun j hj => absurd hj (Nat.not_lt_zero _), Only.refl _ _⟩
    case round =>
      obtain ⟨k, hk, rfl, HK, ho⟩ := hrel
      have HO := Lib.hid ho
      clear ho
      by_cases hlt : k < n
      · obtain ⟨b, off, x, P, p, rfl, hb, hx, hcx, hsx⟩ := pg_at (k := k) (HA.out.later HO.out) hlt
        obtain ⟨b2, off2, y, Q, q, rfl, hb2, hy, hcy, hsy⟩ := pg_at (k := k) (HB.out.later HO.out) hlt
        have HX := Lib.hid hx
        have HY := Lib.hid hy
        have HE := Lib.hid (Equal_c wr _ _ x y hsx hsy)
        obtain ⟨z, hz⟩ : ∃ z, z = decide (x = y) := ⟨_, rfl⟩
        rw [← hz] at HE
        have HZ := Lib.hid hz
        have j1 : (0 : Int) ≤ (k : Int) := by omega
        have j2 : (k : Int) < (n : Int) := by omega
        clear hx hy hsx hsy hz
        cases z
        · go_wp2_with (go_at_call 16; refine HE.out.mono ?_; rintro e w' ⟨rfl, rfl⟩)
          go_ret
          refine ⟨?_, HO.out⟩
          have : decide (xs = ys) = false := by
            rw [decide_eq_false_iff_not]
            rintro rfl
            have h1 := HX.out.symm.trans HY.out
            cases h1
            exact absurd HZ.out (by simp)
          rw [this]
          rfl
        · go_wp2_with (go_at_call 16; refine HE.out.mono ?_; rintro e w' ⟨rfl, rfl⟩)
          go_roundw
          case rel =>
            refine ⟨k + 1, by omega, by go_num, Lib.hid (fun j hj => ?_), HO.out⟩
            rcases Nat.lt_or_ge j k with hjk | hjk
            · exact HK.out j hjk
            · obtain rfl : j = k := by omega
              rw [HX.out, HY.out]
              have := HZ.out
              rw [eq_comm, decide_eq_true_eq] at this
              rw [this]
          case measure => simp [intOf]; omega
      · obtain rfl : n = k := by omega
        have hkm : ¬ (n : Int) < (n : Int) := by omega
        go_wp2
        go_ret
        have : xs = ys := List.ext_getElem? fun j => by
          by_cases hj : j < n
          · exact HK.out j hj
          · rw [List.getElem?_eq_none (by have := HL.out; omega), List.getElem?_eq_none (by have := HL'.out; omega)]
        exact ⟨by simp [this], HO.out⟩
  · have hb : ((n : Int) != (m : Int)) = true := by rw [bne_iff_ne]; omega
    have e : decide (xs = ys) = false := by rw [decide_eq_false_iff_not]; rintro rfl; omega
    rw [e]
    clear h h' hl hl' e
    go_enter Tryd.func83, Tryd.ntmps83
    go_wp2
    go_ret
    exact ⟨rfl, Only.refl _ _⟩
end Go.Proofs.YtbgnfocfnjlabaaDoor
