/-
  Rows of numbers: slices.Index, slices.Contains; mayBe.
-/
import Derived.Test.YtbgnfocfnjlabaaDoorOsm
import Derived.Test.YtbgnfocfnjlabaaDoorGa
set_option linter.unusedVariables false
namespace Go.Proofs.YtbgnfocfnjlabaaDoor
open Go.RowKit

def ci (l : List Int) : List Value := l.map (Value.int .i64)
/-- A slice value that holds these numbers. -/
def Ints (w : World) (v : Value) (l : List Int) : Prop := ∃ A c, v = .slice A l.length c ∧ Raw w A (ci l) ∧ (A = none → c = 0) ∧ l.length ≤ c ∧ c ≤ 9223372036854775807
section
variable {w w' : World} {v : Value} {l : List Int} {A : Option Addr} {n c k : Nat}
theorem Ints.later (h : Ints w v l) (ho : Only (w.heap.size ≤ ·) w w') : Ints w' v l := by
  obtain ⟨A, c, h1, h2, h3⟩ := h
  exact ⟨A, c, h1, h2.later ho, h3⟩
theorem Ints.nil_ (w : World) : Ints w (.slice none 0 0) [] := ⟨none, 0, rfl, Raw.nil_ _ _, fun _ => rfl, Nat.le_refl _, by omega⟩
theorem Ints.len (h : Ints w (.slice A n c) l) : n = l.length := by
  obtain ⟨A', c', e, _⟩ := h
  simp only [Value.slice.injEq] at e
  exact e.2.1
theorem Ints.cap (h : Ints w (.slice A n c) l) : n ≤ c ∧ c ≤ 9223372036854775807 ∧ (A = none → c = 0) := by
  obtain ⟨A', c', e, _, h1, h2, h3⟩ := h
  simp only [Value.slice.injEq] at e
  obtain ⟨rfl, rfl, rfl⟩ := e
  exact ⟨h2, h3, h1⟩
theorem Ints.raw (h : Ints w (.slice A n c) l) : Raw w A (ci l) := by
  obtain ⟨A', c', e, h1, _⟩ := h
  simp only [Value.slice.injEq] at e
  obtain ⟨rfl, rfl, rfl⟩ := e
  exact h1
theorem Ints.at_ (h : Ints w (.slice A n c) l) (hk : k < n) : ∃ b off x, A = some ⟨b, off, none⟩ ∧ b < w.heap.size ∧ l[k]? = some x ∧ w.cell? ⟨b, off + k, none⟩ = some (.int .i64 x) := by
  have hn := h.len
  obtain ⟨b, off, e, hb, hc⟩ := h.raw (by simp [ci]; omega)
  exact ⟨b, off, l[k], e, hb, List.getElem?_eq_getElem (by omega), hc k _ (by simp [ci])⟩
theorem Ints.cut (h : Ints w (.slice A n c) l) (hk : k ≤ n) : Ints w (.slice A k c) (l.take k) := by
  have hn := h.len
  obtain ⟨h1, h2, h3⟩ := h.cap
  exact ⟨A, c, by rw [List.length_take, Nat.min_eq_left (by omega)], by have := h.raw.take k; rwa [ci, List.map_take], h3, by rw [List.length_take]; omega, h2⟩
theorem Ints.own {B : Nat} (h : w.ownsRow B 3 1 v n (ci l)) : Ints w v l := by
  obtain ⟨A, c, rfl, h1, h2, h3, h4, _⟩ := raw_of_own h
  have hl : l.length = n := by have := h.1; simpa [ci] using this
  subst hl
  exact ⟨A, c, rfl, h1, h2, h3, h4⟩
end

set_option maxRecDepth 100000 in
set_option maxHeartbeats 1600000 in
theorem SIndex_c (w : World) (v : Value) (l : List Int) (x : Int) (h : Ints w v l) (hn : l.length ≤ 1000000) :
    Calls Tryd.prog 87 #[v, .int .i64 x] w fun e w' => ∃ r : Int, e = .returned (.int .i64 r) ∧ (0 ≤ r ↔ x ∈ l) ∧ Only (w.heap.size ≤ ·) w w' := by
  obtain ⟨A, c, rfl, hr, hA, hc, hm⟩ := h
  obtain ⟨n, hne⟩ : ∃ n, n = l.length := ⟨_, rfl⟩
  have HS : Hid (Ints w (.slice A n c) l) := Lib.hid (by rw [hne]; exact ⟨A, c, rfl, hr, hA, hc, hm⟩)
  rw [← hne] at hn hc ⊢
  have HL := Lib.hid hne
  clear hr hA hne
  go_enter Tryd.func87, Tryd.ntmps87
  go_wp2
  go_loopw [8] (fun i wr => ∃ (k : Nat), k ≤ n ∧ i = .int .i64 k ∧ Hid (∀ j y, j < k → l[j]? = some y → y ≠ x) ∧ Only (w.heap.size ≤ ·) w wr) (fun i _ => n - (intOf i).toNat)
  case atStart => exact ⟨0, Nat.zero_le _, rfl, fun j y hj => absurd hj (Nat.not_lt_zero _), Only.refl _ _⟩
  case round =>
    obtain ⟨k, hk, rfl, HK, ho⟩ := hrel
    have HO := Lib.hid ho
    clear ho
    by_cases hlt : k < n
    · obtain ⟨b, off, y, rfl, hb, hy, hcell⟩ := (HS.out.later HO.out).at_ hlt
      have HY := Lib.hid hy
      have hk0 : (0 : Int) ≤ (k : Int) := by omega
      have hkn : (k : Int) < (n : Int) := by omega
      clear hy
      by_cases hq : x = y
      · have hq' : (x == y) = true := by rw [beq_iff_eq]; exact hq
        have HQ := Lib.hid hq
        clear hq
        go_wp2
        go_ret
        exact ⟨_, rfl, ⟨fun _ => by rw [HQ.out]; exact List.mem_of_getElem? HY.out, fun _ => by omega⟩, HO.out⟩
      · have hq' : (x == y) = false := by rw [beq_eq_false_iff_ne]; exact hq
        have HQ := Lib.hid hq
        clear hq
        go_wp2
        go_roundw
        case rel =>
          refine ⟨k + 1, by omega, by go_num, Lib.hid (fun j z hj hz => ?_), HO.out⟩
          rcases Nat.lt_or_ge j k with hjk | hjk
          · exact HK.out j z hjk hz
          · obtain rfl : j = k := by omega
            rw [HY.out] at hz
            cases hz
            exact fun e => HQ.out e.symm
        case measure => simp [intOf]; omega
    · obtain rfl : k = n := by omega
      have hkm : ¬ (k : Int) < (k : Int) := by omega
      go_wp2
      go_ret
      refine ⟨_, rfl, ⟨fun h => by omega, fun hx => ?_⟩, HO.out⟩
      obtain ⟨j, hj⟩ := List.mem_iff_getElem?.1 hx
      have hjl := (List.getElem?_eq_some_iff.1 hj).1
      exact absurd rfl (HK.out j x (by rw [HL.out]; exact hjl) hj)

set_option maxHeartbeats 800000 in
theorem SContains_c (w : World) (v : Value) (l : List Int) (x : Int) (h : Ints w v l) (hn : l.length ≤ 1000000) :
    Calls Tryd.prog 62 #[v, .int .i64 x] w (Told w (.bool (decide (x ∈ l)))) := by
  have HI := Lib.hid (SIndex_c w v l x h hn)
  have hv : ∃ A n c, v = .slice A n c := by obtain ⟨A, c, e, _⟩ := h; exact ⟨A, _, c, e⟩
  obtain ⟨A, n, c, rfl⟩ := hv
  clear h hn
  go_enter Tryd.func62, Tryd.ntmps62
  go_wp2_with (go_at_call 87; refine HI.out.mono ?_; rintro e w1 ⟨r, rfl, hr, ho⟩; have HR := Lib.hid hr; have HO := Lib.hid ho; clear hr ho)
  go_ret
  exact ⟨congrArg (fun b => Ending.returned (Value.bool b)) (decide_eq_decide.2 HR.out), HO.out⟩

/-- The k-th of pages may be where it stands. -/
def goodAt (g : Int) (l : List Int) (k : Nat) : Bool := match l[k]? with
  | some x => isId x && !decide (x ∈ l.take k) && (sgl g || decide (x = l.getD 0 0 + k))
  | none => true
def mayP (g : Int) (l : List Int) : Bool := (List.range l.length).all (goodAt g l)
theorem mayP_iff (g : Int) (l : List Int) : mayP g l = true ↔ ∀ k, k < l.length → goodAt g l k = true := by simp [mayP]
theorem mayP_no {g : Int} {l : List Int} {k : Nat} (hk : k < l.length) (h : goodAt g l k = false) : mayP g l = false := by
  rw [← Bool.not_eq_true]
  intro e
  have := (mayP_iff g l).1 e k hk
  rw [h] at this
  cases this

set_option maxRecDepth 100000 in
set_option maxHeartbeats 3200000 in
theorem OmayBe_c (w : World) (g : Int) (v : Value) (l : List Int) (h : Ints w v l) (hn : l.length ≤ 100000) :
    Calls Tryd.prog 34 #[.int .i64 g, v] w (Told w (.bool (mayP g l))) := by
  obtain ⟨A, c, rfl, hr, hA, hc, hm⟩ := h
  obtain ⟨n, hne⟩ : ∃ n, n = l.length := ⟨_, rfl⟩
  have HS : Hid (Ints w (.slice A n c) l) := Lib.hid (by rw [hne]; exact ⟨A, c, rfl, hr, hA, hc, hm⟩)
  rw [← hne] at hn hc ⊢
  have HL := Lib.hid hne
  clear hr hA hne
  have HI : Hid (∀ (W : World) (k : Int), Calls Tryd.prog 61 #[.int .i64 k] W fun e w' => e = .returned (.bool (isId k)) ∧ W = w') := fun W k => OisId_c W k
  have HG : Hid (∀ W, Calls Tryd.prog 9 #[.int .i64 g] W fun e w' => e = .returned (.bool (sgl g)) ∧ W = w') := fun W => OSingle_c W g
  go_enter Tryd.func34, Tryd.ntmps34
  go_wp2
  go_loopw [9] (fun i wr => ∃ (k : Nat), k ≤ n ∧ i = .int .i64 k ∧ Hid (∀ j, j < k → goodAt g l j = true) ∧ Only (w.heap.size ≤ ·) w wr) (fun i _ => n - (intOf i).toNat)
  case atStart => exact ⟨0, Nat.zero_le _, rfl, fun j hj => absurd hj (Nat.not_lt_zero _), Only.refl _ _⟩
  case round =>
    obtain ⟨k, hk, rfl, HK, ho⟩ := hrel
    have HO := Lib.hid ho
    clear ho
    by_cases hlt : k < n
    · obtain ⟨b, off, y, rfl, hb, hy, hcell⟩ := (HS.out.later HO.out).at_ hlt
      obtain ⟨b0, off0, y0, e0, hb0, hy0, hcell0⟩ := (HS.out.later HO.out).at_ (k := 0) (by omega)
      cases e0
      simp only [Nat.add_zero] at hcell0
      have HD : Hid (l.getD 0 0 = y0) := Lib.hid (by rw [List.getD_eq_getElem?_getD, hy0]; rfl)
      have HY := Lib.hid hy
      have hk0 : (0 : Int) ≤ (k : Int) := by omega
      have hkn : (k : Int) < (n : Int) := by omega
      have HC : Hid (∀ W : World, Only (w.heap.size ≤ ·) w W → Calls Tryd.prog 62 #[.slice (some ⟨b, off, none⟩) k c, .int .i64 y] W (Told W (.bool (decide (y ∈ l.take k))))) := fun W hW => SContains_c W _ _ y ((HS.out.later hW).cut (by omega)) (by rw [List.length_take]; omega)
      have HGA : Hid (goodAt g l k = (isId y && !decide (y ∈ l.take k) && (sgl g || decide (y = y0 + k)))) := Lib.hid (by unfold goodAt; rw [HY.out, HD.out])
      have HN := Lib.hid (fun h => mayP_no (g := g) (l := l) (k := k) (by rw [← HL.out]; exact hlt) h)
      have HZ : Hid (isId y = true → 2 ≤ y0 ∧ y0 < 16384) := Lib.hid fun h => by
        have h0 : isId y0 = true := by
          rcases Nat.eq_zero_or_pos k with e | e
          · subst e
            rw [hy] at hy0
            cases hy0
            exact h
          · have := HK.out 0 e
            unfold goodAt at this
            rw [hy0] at this
            simp only [Bool.and_eq_true] at this
            exact this.1.1
        simpa [isId] using h0
      clear hy hy0
      obtain ⟨B1, hB1⟩ : ∃ B1, B1 = isId y := ⟨_, rfl⟩
      obtain ⟨B2, hB2⟩ : ∃ B2, B2 = decide (y ∈ l.take k) := ⟨_, rfl⟩
      obtain ⟨B3, hB3⟩ : ∃ B3, B3 = sgl g := ⟨_, rfl⟩
      have HI' := Lib.hid (fun W => HI.out W y)
      rw [← hB1] at HI' HGA HZ
      rw [← hB2] at HC HGA
      rw [← hB3] at HG HGA
      clear hB1 hB2 hB3 HI
      cases B1
      · have HF := Lib.hid (HN.out (by rw [HGA.out]; rfl))
        go_wp2_with (go_at_call 61; refine (HI'.out _).mono ?_; rintro e w1 ⟨rfl, rfl⟩)
        go_ret
        exact ⟨by rw [HF.out]; rfl, HO.out⟩
      have hz := HZ.out rfl
      cases B2
      · cases B3
        · by_cases hq : y = y0 + k
          · have hq' : (y == y0 + (k : Int)) = true := by rw [beq_iff_eq]; exact hq
            have HT : Hid (goodAt g l k = true) := Lib.hid (by rw [HGA.out, decide_eq_true hq]; rfl)
            clear hq
            go_wp2_with (first | (go_at_call 61; refine (HI'.out _).mono ?_; rintro e w1 ⟨rfl, rfl⟩) | (go_at_call 62; refine (HC.out _ HO.out).mono ?_; rintro e w2 ⟨rfl, ho2⟩; have hcell2 := (ho2.cell (p := ⟨b, off, none⟩) (Nat.not_le.2 hb)).trans hcell0; have HO2 := Lib.hid (on_new HO.out ho2); clear ho2) | (go_at_call 9; refine (HG.out _).mono ?_; rintro e w3 ⟨rfl, rfl⟩))
            go_roundw
            case rel =>
              refine ⟨k + 1, by omega, by go_num, Lib.hid (fun j hj => ?_), HO2.out⟩
              rcases Nat.lt_or_ge j k with hjk | hjk
              · exact HK.out j hjk
              · obtain rfl : j = k := by omega
                exact HT.out
            case measure => simp [intOf]; omega
          · have hq' : (y == y0 + (k : Int)) = false := by rw [beq_eq_false_iff_ne]; exact hq
            have HF := Lib.hid (HN.out (by rw [HGA.out, decide_eq_false hq]; rfl))
            clear hq
            go_wp2_with (first | (go_at_call 61; refine (HI'.out _).mono ?_; rintro e w1 ⟨rfl, rfl⟩) | (go_at_call 62; refine (HC.out _ HO.out).mono ?_; rintro e w2 ⟨rfl, ho2⟩; have hcell2 := (ho2.cell (p := ⟨b, off, none⟩) (Nat.not_le.2 hb)).trans hcell0; have HO2 := Lib.hid (on_new HO.out ho2); clear ho2) | (go_at_call 9; refine (HG.out _).mono ?_; rintro e w3 ⟨rfl, rfl⟩))
            go_ret
            exact ⟨by rw [HF.out]; rfl, HO2.out⟩
        · have HT : Hid (goodAt g l k = true) := Lib.hid (by rw [HGA.out]; rfl)
          go_wp2_with (first | (go_at_call 61; refine (HI'.out _).mono ?_; rintro e w1 ⟨rfl, rfl⟩) | (go_at_call 62; refine (HC.out _ HO.out).mono ?_; rintro e w2 ⟨rfl, ho2⟩; have hcell2 := (ho2.cell (p := ⟨b, off, none⟩) (Nat.not_le.2 hb)).trans hcell0; have HO2 := Lib.hid (on_new HO.out ho2); clear ho2) | (go_at_call 9; refine (HG.out _).mono ?_; rintro e w3 ⟨rfl, rfl⟩))
          go_roundw
          case rel =>
            refine ⟨k + 1, by omega, by go_num, Lib.hid (fun j hj => ?_), HO2.out⟩
            rcases Nat.lt_or_ge j k with hjk | hjk
            · exact HK.out j hjk
            · obtain rfl : j = k := by omega
              exact HT.out
          case measure => simp [intOf]; omega
      · have HF := Lib.hid (HN.out (by rw [HGA.out]; rfl))
        go_wp2_with (first | (go_at_call 61; refine (HI'.out _).mono ?_; rintro e w1 ⟨rfl, rfl⟩) | (go_at_call 62; refine (HC.out _ HO.out).mono ?_; rintro e w2 ⟨rfl, ho2⟩; have hcell2 := (ho2.cell (p := ⟨b, off, none⟩) (Nat.not_le.2 hb)).trans hcell0; have HO2 := Lib.hid (on_new HO.out ho2); clear ho2) | (go_at_call 9; refine (HG.out _).mono ?_; rintro e w3 ⟨rfl, rfl⟩))
        go_ret
        exact ⟨by rw [HF.out]; rfl, HO2.out⟩
    · obtain rfl : k = n := by omega
      have hkm : ¬ (k : Int) < (k : Int) := by omega
      go_wp2
      go_ret
      exact ⟨by rw [(mayP_iff g l).2 (by rw [← HL.out]; exact HK.out)]; rfl, HO.out⟩
theorem mayP_at {g : Int} {l : List Int} (h : mayP g l = true) {x : Int} (hx : x ∈ l) : isId x = true := by
  obtain ⟨k, hk⟩ := List.mem_iff_getElem?.1 hx
  have := (mayP_iff g l).1 h k (List.getElem?_eq_some_iff.1 hk).1
  unfold goodAt at this
  rw [hk] at this
  simp only [Bool.and_eq_true] at this
  exact this.1.1
theorem mayP_bound {g : Int} {l : List Int} (h : mayP g l = true) : ∀ x ∈ l, 2 ≤ x ∧ x < 16384 := fun x hx => by simpa [isId] using mayP_at h hx
end Go.Proofs.YtbgnfocfnjlabaaDoor
