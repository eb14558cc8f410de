/-
  RunTakes: the walk.
-/
import Derived.Test.YtjnaejogclmooaaRuni
set_option linter.unusedVariables false
namespace Go.Proofs.Ytjnaejogclmooaa
open Go.RowKit

/-- The first run that has room. -/
def First (l : List R) (m : Int) (k : Nat) (r : R) : Prop := 1 ≤ m ∧ (known l)[k]? = some r ∧ m ≤ r.2 ∧ ∀ j y, j < k → (known l)[j]? = some y → y.2 < m
def NoRoom (l : List R) (m : Int) : Prop := m < 1 ∨ ∀ r ∈ known l, r.2 < m
theorem first_or : ∀ (l : List R) (m : Int), NoRoom l m ∨ ∃ k r, First l m k r := by
  intro l m
  by_cases hm : m < 1
  · exact .inl (.inl hm)
  · cases hf : (known l).findIdx? (fun r => decide (m ≤ r.2)) with
    | none =>
      rw [List.findIdx?_eq_none_iff] at hf
      exact .inl (.inr fun r hr => by have := hf r hr; simp at this; exact this)
    | some k =>
      rw [List.findIdx?_eq_some_iff_getElem] at hf
      obtain ⟨hk, h1, h2⟩ := hf
      refine .inr ⟨k, (known l)[k], by omega, List.getElem?_eq_getElem hk, by simpa using h1, fun j y hj hy => ?_⟩
      obtain ⟨hjl, rfl⟩ := List.getElem?_eq_some_iff.1 hy
      have := h2 j hj
      simpa using this
theorem Take_no (W : World) (v : Value) (l : List R) (m : Int) (h : Row W v l) (hr : ∀ y ∈ l, I64 y) (hno : NoRoom l m) :
    Calls Try.prog 29 #[v, .int .i64 m] W fun e w' => (∃ u, e = .returned (.tuple #[.int .i64 0, u, .bool false]) ∧ Row w' u (known l)) ∧ Only (W.heap.size ≤ ·) W w' :=
  (Take_c W v l m h hr).mono fun e w' ⟨a, v, n, u, b, h1, h2, h3, h4⟩ => by
    rcases h3 with ⟨rfl, rfl, _, rfl⟩ | ⟨_, hm, k, r, hk, hmr, _⟩
    · exact ⟨⟨v, h1, h2.row⟩, h4⟩
    · rcases hno with h | h
      · omega
      · have := h r (List.mem_of_getElem? hk); omega
theorem own_apart {w : World} {B n g : Nat} {v : Value} {u : List R} (h : OwnN w B v n u) (hg : g < B) : ∀ W W' : World, Row W v u → Only (· = g) W W' → Row W' v u := by
  rintro W W' ⟨A, c, e, hrs, rest⟩ ho
  refine ⟨A, c, e, hrs.on ho (fun b off hl hA hb => ?_), rest⟩
  subst hb
  have := (World.ownsRow.lt h.2 b (by rw [e, hA]; rfl)).1
  omega
theorem hno_at {l : List R} {m : Int} {k : Nat} {x : R} (h : NoRoom l m) (hx : (known l)[k]? = some x) : 1 ≤ m → x.2 < m := fun hm => by
  rcases h with h | h
  · omega
  · exact h x (List.mem_of_getElem? hx)
theorem Take_yes (W : World) (v : Value) (l : List R) (m : Int) (k : Nat) (r : R) (h : Row W v l) (hr : ∀ y ∈ l, I64 y) (hf : First l m k r) :
    Calls Try.prog 29 #[v, .int .i64 m] W fun e w' => (∃ v n u, e = .returned (.tuple #[.int .i64 r.1, v, .bool true]) ∧ OwnN w' W.heap.size v n u ∧ IsRow u (fun p => Mem l p ∧ ¬ within (r.1, m) p)) ∧ Only (W.heap.size ≤ ·) W w' :=
  (Take_c W v l m h hr).mono fun e w' ⟨a, v, n, u, b, h1, h2, h3, h4⟩ => by
    obtain ⟨f1, f2, f3, f4⟩ := hf
    rcases h3 with ⟨rfl, rfl, hno, rfl⟩ | ⟨rfl, hm, k', r', hk, hmr, hbef, rfl, hu⟩
    · rcases hno with h | h
      · omega
      · have := h r (List.mem_of_getElem? f2); omega
    · have : k' = k := by
        rcases Nat.lt_trichotomy k' k with h | h | h
        · have := f4 k' r' h hk; omega
        · exact h
        · have := hbef k r h f2; omega
      subst this
      rw [f2] at hk
      cases hk
      exact ⟨⟨v, n, u, h1, h2, hu⟩, h4⟩
theorem Runs_s (W : World) (g : Nat) (f : Nat → Bool) (L : List R) (n : Nat) (h : Blk W g 4 (bf f 600)) (e : runsOf f 600 = L) (hn : n = L.length) : Calls Try.prog 23 #[.slice (some ⟨g, 0, none⟩) 600 600] W fun e w' => (∃ A c, e = .returned (.slice A n c) ∧ Rs w' A L) ∧ Only (W.heap.size ≤ ·) W w' := by
  rw [hn, ← e]
  exact (Runs_v W g f h).mono fun e w' ⟨⟨v, h1, A, c, h2, h3, _⟩, ho⟩ => ⟨⟨A, c, by rw [h1, h2], h3⟩, ho⟩
theorem set_runs {l : List R} (h : short l = true) : runsOf (setOf l) 600 = known l := (runs_eq (fun q _ => setOf_iff l q) (fun p hp => mem_range h hp) (known_isRow l)).symm

def cutf (f : Nat → Bool) (a k q : Nat) : Bool := if a ≤ q ∧ q < a + k then false else f q
theorem cutf_zero (f : Nat → Bool) (a m : Nat) : bf (cutf f a 0) m = bf f m := bf_congr fun q _ => by unfold cutf; rw [if_neg (by omega)]
theorem cutf_step (f : Nat → Bool) (a k m : Nat) : (bf (cutf f a k) m).set (a + k) (.bool false) = bf (cutf f a (k + 1)) m := bf_set fun q _ => by
  unfold cutf
  by_cases e : q = a + k
  · subst e; rw [if_pos (by omega), if_pos rfl]
  · rw [if_neg e]
    by_cases h : a ≤ q ∧ q < a + k
    · rw [if_pos h, if_pos (by omega)]
    · rw [if_neg h, if_neg (by omega)]

set_option maxRecDepth 100000 in
set_option maxHeartbeats 6400000 in
theorem takes_no (w : World) (v : Value) (l : List R) (m : Int) (h : Row w v l) (hr : ∀ x ∈ l, I64 x) (hs : short l = true) (hno : NoRoom l m) :
    Calls Try.prog 6 #[v, .int .i64 m] w (Told w (.bool true)) := by
  have HO : Hid (Only (w.heap.size ≤ ·) w w) := Only.refl _ w
  have HA := Lib.hid h
  have HAi := Lib.hid hr
  have HSA : Hid (true = short l) := hs.symm
  have HNO := Lib.hid hno
  have HAlen : Hid (l.length ≤ 1000000) := Nat.le_trans (short_iff hs).1 (by decide)
  have HSR : Hid (runsOf (setOf l) 600 = known l) := set_runs hs
  have hln : (known l).length ≤ 32768 := right_length (known_right l)
  obtain ⟨n, hn⟩ : ∃ n, n = (known l).length := ⟨_, rfl⟩
  have HN := Lib.hid hn
  rw [← hn] at hln
  clear h hr hs hno hn
  go_enter Try.func6, Try.ntmps6
  go_wp2_with (first
    | (go_at_call 10; (with_reducible refine (few_b _ _ _ _ HA.out HSA.out).mono ?_); rintro e w1 ⟨rfl, ho⟩; (try replace HA := Lib.hid (HA.out.later ho)); (try replace HX := Lib.hid (HX.out.later ho)); (try replace HT := Lib.hid (HT.out.later ho)); (try replace HS := Lib.hid (HS.out.later ho)); (try replace HQ := Lib.hid (HQ.out.later ho)); replace HO := Lib.hid (on_new HO.out ho); clear ho)
    | (go_at_call 12; (with_reducible refine (Set_v _ _ _ HA.out HAi.out).mono ?_); rintro e ws ⟨gs, rfl, hg, h, ho⟩; (try replace HA := Lib.hid (HA.out.later ho)); (try replace HX := Lib.hid (HX.out.later ho)); (try replace HT := Lib.hid (HT.out.later ho)); (try replace HS := Lib.hid (HS.out.later ho)); (try replace HQ := Lib.hid (HQ.out.later ho)); have HS := Lib.hid h; have HSg := Lib.hid (Nat.le_trans HO.out.size hg); have HSlt := Lib.hid (And.intro hg h.lt); clear hg; clear h; replace HO := Lib.hid (on_new HO.out ho); clear ho)
    | (go_at_call 14; (with_reducible refine (of_v _ _ _ HA.out (by first | exact HAlen.out | decide)).mono ?_); rintro e wx ⟨⟨vx, rfl, h⟩, ho⟩; (try replace HA := Lib.hid (HA.out.later ho)); (try replace HX := Lib.hid (HX.out.later ho)); (try replace HT := Lib.hid (HT.out.later ho)); (try replace HS := Lib.hid (HS.out.later ho)); (try replace HQ := Lib.hid (HQ.out.later ho)); have HX := Lib.hid h; (try have HXlen := Lib.hid HAlen.out); (try have HXi := Lib.hid HAi.out); clear h; replace HO := Lib.hid (on_new HO.out ho); clear ho)
    | (go_at_call 29; (with_reducible refine (Take_no _ _ _ _ HX.out HXi.out HNO.out).mono ?_); rintro e wt ⟨⟨vt, rfl, h⟩, ho⟩; (try replace HA := Lib.hid (HA.out.later ho)); (try replace HX := Lib.hid (HX.out.later ho)); (try replace HT := Lib.hid (HT.out.later ho)); (try replace HS := Lib.hid (HS.out.later ho)); (try replace HQ := Lib.hid (HQ.out.later ho)); have HT := Lib.hid h; clear h; replace HO := Lib.hid (on_new HO.out ho); clear ho)
    | (go_at_call 23; (with_reducible refine (Runs_s _ _ _ _ n HS.out HSR.out HN.out).mono ?_); rintro e wq ⟨⟨aq, cq, rfl, h⟩, ho⟩; (try replace HA := Lib.hid (HA.out.later ho)); (try replace HX := Lib.hid (HX.out.later ho)); (try replace HT := Lib.hid (HT.out.later ho)); (try replace HS := Lib.hid (HS.out.later ho)); (try replace HQ := Lib.hid (HQ.out.later ho)); have HQ := Lib.hid h; clear h; replace HO := Lib.hid (on_new HO.out ho); clear ho))
  go_loopw [9, 30] (fun s i wr => ∃ (k : Nat), k ≤ n ∧ s = .int .i64 (-1) ∧ i = .int .i64 k ∧ Only (wq.heap.size ≤ ·) wq wr) (fun _ i _ => n - (intOf i).toNat)
  case atStart => exact ⟨0, Nat.zero_le _, rfl, rfl, Only.refl _ _⟩
  case round =>
    obtain ⟨k, hk, rfl, rfl, ho⟩ := hrel
    have HP := Lib.hid ho
    clear ho
    by_cases hlt : k < n
    · obtain ⟨g, off, x, rfl, hg, hx, hc1, hc2⟩ := (HQ.out.later HP.out).at_ (k := k) (by rw [← HN.out]; exact hlt)
      have hxm := hno_at HNO.out hx
      obtain ⟨x1, x2⟩ := x
      simp only at hxm hc1 hc2
      have HP2 : Hid (Only (wq.heap.size ≤ ·) wq (wr.alloc (.cells #[.int .i64 x1, .int .i64 x2] 40))) := HP.out.alloc (fun _ h => h) _
      have HB0 : Blk (wr.alloc (.cells #[.int .i64 x1, .int .i64 x2] 40)) wr.heap.size 40 [.int .i64 x1, .int .i64 x2] := Blk.new wr _ [.int .i64 x1, .int .i64 x2]
      have hq1 := HB0.cell 1
      simp at hq1
      clear hx
      by_cases hm : 1 ≤ m
      · have hx2 : ¬ m ≤ x2 := by have := hxm hm; omega
        have hd : decide (m ≤ x2) = false := decide_eq_false hx2
        have hd1 : decide (1 ≤ m) = true := decide_eq_true hm
        go_wp2
        go_roundw
        case rel => exact ⟨k + 1, by omega, rfl, by go_num, HP2.out⟩
        case measure => simp [intOf]; omega
      · have hd1 : decide (1 ≤ m) = false := decide_eq_false hm
        go_wp2
        go_roundw
        case rel => exact ⟨k + 1, by omega, rfl, by go_num, HP2.out⟩
        case measure => simp [intOf]; omega
    · obtain rfl : k = n := by omega
      have hkm : ¬ (k : Int) < (k : Int) := by omega
      replace HO := Lib.hid (on_new HO.out HP.out)
      replace HS := Lib.hid (HS.out.later HP.out)
      replace HT := Lib.hid (HT.out.later HP.out)
      have HKR : Hid (known l = runsOf (setOf l) 600) := HSR.out.symm
      have HTlen : Hid ((known l).length ≤ 1000000) := by rw [← HN.out]; exact Nat.le_trans hln (by decide)
      go_wp2_with (first
        | (go_at_call 11; (with_reducible refine (alive_c _).mono ?_); rintro e w20 ⟨rfl, ho⟩; (try replace HA := Lib.hid (HA.out.later ho)); (try replace HT := Lib.hid (HT.out.later ho)); (try replace HS := Lib.hid (HS.out.later ho)); (try replace HP := Lib.hid (HP.out.later ho)); (try replace HZ := Lib.hid (HZ.out.later ho)); replace HO := Lib.hid (on_new HO.out ho); clear ho)
        | (go_at_call 21; (with_reducible refine (old_v _ _ _ HT.out (by first | exact HTlen.out | decide)).mono ?_); rintro e wp ⟨⟨vp, rfl, h⟩, ho⟩; (try replace HA := Lib.hid (HA.out.later ho)); (try replace HT := Lib.hid (HT.out.later ho)); (try replace HS := Lib.hid (HS.out.later ho)); (try replace HP := Lib.hid (HP.out.later ho)); (try replace HZ := Lib.hid (HZ.out.later ho)); have HP := Lib.hid h; (try have HPlen := Lib.hid HTlen.out); (try have HPi := Lib.hid HTi.out); clear h; replace HO := Lib.hid (on_new HO.out ho); clear ho)
        | (go_at_call 23; (with_reducible refine (Runs_v _ _ _ HS.out).mono ?_); rintro e wz ⟨⟨vz, rfl, h⟩, ho⟩; (try replace HA := Lib.hid (HA.out.later ho)); (try replace HT := Lib.hid (HT.out.later ho)); (try replace HS := Lib.hid (HS.out.later ho)); (try replace HP := Lib.hid (HP.out.later ho)); (try replace HZ := Lib.hid (HZ.out.later ho)); have HZ := Lib.hid h; clear h; replace HO := Lib.hid (on_new HO.out ho); clear ho)
        | (go_at_call 20; (with_reducible refine (Same_t _ _ _ _ _ HP.out HZ.out HKR.out).mono ?_); rintro e w23 ⟨rfl, ho⟩; (try replace HA := Lib.hid (HA.out.later ho)); (try replace HT := Lib.hid (HT.out.later ho)); (try replace HS := Lib.hid (HS.out.later ho)); (try replace HP := Lib.hid (HP.out.later ho)); (try replace HZ := Lib.hid (HZ.out.later ho)); replace HO := Lib.hid (on_new HO.out ho); clear ho))
      go_ret
      exact ⟨rfl, HO.out⟩

set_option maxRecDepth 100000 in
set_option maxHeartbeats 6400000 in
theorem takes_yes (w : World) (v : Value) (l : List R) (m : Int) (h : Row w v l) (hr : ∀ x ∈ l, I64 x) (hs : short l = true) (j : Nat) (r : R) (hf : First l m j r) :
    Calls Try.prog 6 #[v, .int .i64 m] w (Told w (.bool true)) := by
  have HO : Hid (Only (w.heap.size ≤ ·) w w) := Only.refl _ w
  have HA := Lib.hid h
  have HAi := Lib.hid hr
  have HSA : Hid (true = short l) := hs.symm
  have HNO := Lib.hid hf
  have HAlen : Hid (l.length ≤ 1000000) := Nat.le_trans (short_iff hs).1 (by decide)
  have HSR : Hid (runsOf (setOf l) 600 = known l) := set_runs hs
  have hln : (known l).length ≤ 32768 := right_length (known_right l)
  obtain ⟨n, hn⟩ : ∃ n, n = (known l).length := ⟨_, rfl⟩
  have HN := Lib.hid hn
  rw [← hn] at hln
  have hjn : j < n := by rw [hn]; exact (List.getElem?_eq_some_iff.1 hf.2.1).1
  have hmem := List.mem_of_getElem? hf.2.1
  have hrm := (may_iff r).1 (right_may (known_right l) r hmem)
  have hr6 := (short_iff hs).2 r (known_mem hmem) (right_may (known_right l) r hmem)
  have hm1 := hf.1
  have hmr := hf.2.2.1
  have HTW : Hid (∀ W v, Row W v l → Calls Try.prog 29 #[v, .int .i64 m] W fun e w' => (∃ v n u, e = .returned (.tuple #[.int .i64 r.1, v, .bool true]) ∧ OwnN w' W.heap.size v n u ∧ IsRow u (fun p => Mem l p ∧ ¬ within (r.1, m) p)) ∧ Only (W.heap.size ≤ ·) W w') := fun W v h => Take_yes W v l m j r h hr hf
  have HAT : Hid (∀ k y, (known l)[k]? = some y → (k < j → ¬ m ≤ y.2) ∧ (k = j → y = r)) := fun k y hy => ⟨fun hk => by have := hf.2.2.2 k y hk hy; omega, fun hk => by subst hk; rw [hf.2.1] at hy; cases hy; rfl⟩
  obtain ⟨r1, r2⟩ := r
  simp only at hrm hr6 hmr HTW
  obtain ⟨a, rfl⟩ : ∃ a : Nat, r1 = a := ⟨r1.toNat, by omega⟩
  obtain ⟨M, rfl⟩ : ∃ M : Nat, m = M := ⟨m.toNat, by omega⟩
  obtain ⟨f, hff⟩ : ∃ f, f = setOf l := ⟨_, rfl⟩
  have HF := Lib.hid hff
  have HE : Hid (∀ u, IsRow u (fun p => Mem l p ∧ ¬ within ((a : Int), (M : Int)) p) → u = runsOf (cutf f a M) 600) := fun u hu => runs_eq (fun q _ => by
    rw [HF.out]
    unfold cutf within
    by_cases h : a ≤ q ∧ q < a + M
    · rw [if_pos h]; constructor
      · intro h; cases h
      · intro h'; exact absurd ⟨by simp only; omega, by simp only; omega⟩ h'.2
    · rw [if_neg h]; exact ⟨fun h' => ⟨h', fun hh => h (by simp only at hh; omega)⟩, fun h' => h'.1⟩) (fun p hp => mem_range hs hp.1) hu
  clear h hr hs hf hn hmem hff
  go_enter Try.func6, Try.ntmps6
  go_wp2_with (first
    | (go_at_call 10; (with_reducible refine (few_b _ _ _ _ HA.out HSA.out).mono ?_); rintro e w1 ⟨rfl, ho⟩; (try replace HA := Lib.hid (HA.out.later ho)); (try replace HX := Lib.hid (HX.out.later ho)); (try replace HT := Lib.hid (HT.out.later ho)); (try replace HS := Lib.hid (HS.out.later ho)); (try replace HQ := Lib.hid (HQ.out.later ho)); replace HO := Lib.hid (on_new HO.out ho); clear ho)
    | (go_at_call 12; (with_reducible refine (Set_v _ _ _ HA.out HAi.out).mono ?_); rintro e ws ⟨gs, rfl, hg, h, ho⟩; (try replace HA := Lib.hid (HA.out.later ho)); (try replace HX := Lib.hid (HX.out.later ho)); (try replace HT := Lib.hid (HT.out.later ho)); (try replace HS := Lib.hid (HS.out.later ho)); (try replace HQ := Lib.hid (HQ.out.later ho)); have HS := Lib.hid h; have HSg := Lib.hid (Nat.le_trans HO.out.size hg); have HSlt := Lib.hid (And.intro hg h.lt); clear hg; clear h; replace HO := Lib.hid (on_new HO.out ho); clear ho)
    | (go_at_call 14; (with_reducible refine (of_v _ _ _ HA.out (by first | exact HAlen.out | decide)).mono ?_); rintro e wx ⟨⟨vx, rfl, h⟩, ho⟩; (try replace HA := Lib.hid (HA.out.later ho)); (try replace HX := Lib.hid (HX.out.later ho)); (try replace HT := Lib.hid (HT.out.later ho)); (try replace HS := Lib.hid (HS.out.later ho)); (try replace HQ := Lib.hid (HQ.out.later ho)); have HX := Lib.hid h; (try have HXlen := Lib.hid HAlen.out); (try have HXi := Lib.hid HAi.out); clear h; replace HO := Lib.hid (on_new HO.out ho); clear ho)
    | (go_at_call 29; (with_reducible refine (HTW.out _ _ HX.out).mono ?_); rintro e wt ⟨⟨vt, nt, lt, rfl, h, hu⟩, ho⟩; have HTF := Lib.hid (own_apart h HS.out.lt); (try replace HA := Lib.hid (HA.out.later ho)); (try replace HX := Lib.hid (HX.out.later ho)); (try replace HT := Lib.hid (HT.out.later ho)); (try replace HS := Lib.hid (HS.out.later ho)); (try replace HQ := Lib.hid (HQ.out.later ho)); have HT := Lib.hid h.row; have HTu := Lib.hid hu; clear hu; clear h; replace HO := Lib.hid (on_new HO.out ho); clear ho)
    | (go_at_call 23; (with_reducible refine (Runs_s _ _ _ _ n HS.out HSR.out HN.out).mono ?_); rintro e wq ⟨⟨aq, cq, rfl, h⟩, ho⟩; (try replace HA := Lib.hid (HA.out.later ho)); (try replace HX := Lib.hid (HX.out.later ho)); (try replace HT := Lib.hid (HT.out.later ho)); (try replace HS := Lib.hid (HS.out.later ho)); (try replace HQ := Lib.hid (HQ.out.later ho)); have HQ := Lib.hid h; clear h; replace HO := Lib.hid (on_new HO.out ho); clear ho))
  go_loopw [9, 30] (fun s i wr => ∃ (k : Nat), k ≤ n ∧ s = .int .i64 (if k ≤ j then -1 else (a : Int)) ∧ i = .int .i64 k ∧ Only (wq.heap.size ≤ ·) wq wr) (fun _ i _ => n - (intOf i).toNat)
  case atStart => exact ⟨0, Nat.zero_le _, by rw [if_pos (Nat.zero_le _)], rfl, Only.refl _ _⟩
  case round =>
    obtain ⟨k, hk, rfl, rfl, ho⟩ := hrel
    have HP := Lib.hid ho
    clear ho
    by_cases hlt : k < n
    · obtain ⟨g, off, x, rfl, hg, hx, hc1, hc2⟩ := (HQ.out.later HP.out).at_ (k := k) (by rw [← HN.out]; exact hlt)
      obtain ⟨hx1, hx2⟩ := HAT.out k x hx
      obtain ⟨x1, x2⟩ := x
      simp only at hx1 hc1 hc2
      have HP2 : Hid (Only (wq.heap.size ≤ ·) wq (wr.alloc (.cells #[.int .i64 x1, .int .i64 x2] 40))) := HP.out.alloc (fun _ h => h) _
      have HB0 : Blk (wr.alloc (.cells #[.int .i64 x1, .int .i64 x2] 40)) wr.heap.size 40 [.int .i64 x1, .int .i64 x2] := Blk.new wr _ [.int .i64 x1, .int .i64 x2]
      have hq1 := HB0.cell 1
      have hq0 := HB0.cell 0
      simp at hq1 hq0
      have hd1 : decide (1 ≤ (M : Int)) = true := decide_eq_true hm1
      clear hx
      by_cases hkj : k ≤ j
      · rw [if_pos hkj]
        rcases Nat.lt_or_ge k j with hlt' | hge
        · have hd : decide ((M : Int) ≤ x2) = false := decide_eq_false (by have := hx1 hlt'; omega)
          have hd' : ¬ (M : Int) ≤ x2 := by have := hx1 hlt'; omega
          go_wp2
          go_roundw
          case rel => exact ⟨k + 1, by omega, by rw [if_pos (by omega)], by go_num, HP2.out⟩
          case measure => simp [intOf]; omega
        · obtain rfl : k = j := by omega
          have he := hx2 rfl
          simp only [Prod.mk.injEq] at he
          obtain ⟨rfl, rfl⟩ := he
          have hd : decide ((M : Int) ≤ x2) = true := decide_eq_true hmr
          go_wp2
          go_roundw
          case rel => exact ⟨k + 1, by omega, by rw [if_neg (by omega)], by go_num, HP2.out⟩
          case measure => simp [intOf]; omega
      · rw [if_neg hkj]
        have hd : decide ((a : Int) < 0) = false := decide_eq_false (by omega)
        have hd0 : ¬ (a : Int) < 0 := by omega
        go_wp2
        go_roundw
        case rel => exact ⟨k + 1, by omega, by rw [if_neg (by omega)], by go_num, HP2.out⟩
        case measure => simp [intOf]; omega
    · obtain rfl : k = n := by omega
      have hkm : ¬ (k : Int) < (k : Int) := by omega
      rw [if_neg (by omega)]
      have hd0 : ¬ (a : Int) < 0 := by omega
      replace HO := Lib.hid (on_new HO.out HP.out)
      replace HS := Lib.hid (HS.out.later HP.out)
      replace HT := Lib.hid (HT.out.later HP.out)
      clear HQ HP HAT HTW HX HA
      go_wp2
      go_loopw [68] (fun i wz => ∃ (p : Nat), p ≤ M ∧ i = .int .i64 p ∧ Blk wz gs 4 (bf (cutf f a p) 600) ∧ Row wz vt lt ∧ Only (w.heap.size ≤ ·) w wz) (fun i _ => M - (intOf i).toNat)
      case atStart => exact ⟨0, Nat.zero_le _, rfl, by rw [cutf_zero, HF.out]; exact HS.out, HT.out, HO.out⟩
      case round =>
        obtain ⟨p, hp, rfl, hbs, hrt, ho⟩ := hrel
        clear HO HS HT
        have HO := Lib.hid ho
        have HS := Lib.hid hbs
        have HT := Lib.hid hrt
        clear ho hbs hrt
        by_cases hpm : p < M
        · have hpm' : (p : Int) < (M : Int) := by omega
          have aw : IntKind.i64.wrap ((a : Int) + (p : Int)) = ((a + p : Nat) : Int) := by rw [IntWalk.i64_in _ (by omega)]; omega
          have hap : ((a + p : Nat) : Int) < 600 := by omega
          have hap0 : (0 : Int) ≤ ((a + p : Nat) : Int) := by omega
          have hfz := HS.out.frozen (a + p)
          obtain ⟨ob, hob⟩ : ∃ ob, wr.cell? ⟨gs, a + p, none⟩ = some (.bool ob) := ⟨_, (HS.out.cell (a + p)).trans (bf_get _ (by omega))⟩
          have HN1 : Hid (Blk (wr.setCell ⟨gs, a + p, none⟩ (.bool false)) gs 4 (bf (cutf f a (p + 1)) 600)) := by
            have := HS.out.set_ (a + p) (.bool false)
            rwa [cutf_step] at this
          have HN2 : Hid (Only (w.heap.size ≤ ·) w (wr.setCell ⟨gs, a + p, none⟩ (.bool false))) := HO.out.setCell (p := ⟨gs, a + p, none⟩) HSg.out _
          have HN3 : Hid (Row (wr.setCell ⟨gs, a + p, none⟩ (.bool false)) vt lt) := HTF.out wr _ HT.out ((Only.refl (· = gs) wr).setCell (p := ⟨gs, a + p, none⟩) rfl _)
          go_wp2
          go_roundw
          case rel => exact ⟨p + 1, by omega, by go_num, HN1.out, HN3.out, HN2.out⟩
          case measure => simp [intOf]; omega
        · obtain rfl : p = M := by omega
          have hpp : ¬ (p : Int) < (p : Int) := by omega
          have HTlen := Lib.hid (row_len HTu.out)
          go_wp2_with (first
            | (go_at_call 11; (with_reducible refine (alive_c _).mono ?_); rintro e w20 ⟨rfl, ho⟩; (try replace HT := Lib.hid (HT.out.later ho)); (try replace HS := Lib.hid (HS.out.later ho)); (try replace HP := Lib.hid (HP.out.later ho)); (try replace HZ := Lib.hid (HZ.out.later ho)); replace HO := Lib.hid (on_new HO.out ho); clear ho)
            | (go_at_call 21; (with_reducible refine (old_v _ _ _ HT.out (by first | exact HTlen.out | decide)).mono ?_); rintro e wp ⟨⟨vp, rfl, h⟩, ho⟩; (try replace HT := Lib.hid (HT.out.later ho)); (try replace HS := Lib.hid (HS.out.later ho)); (try replace HP := Lib.hid (HP.out.later ho)); (try replace HZ := Lib.hid (HZ.out.later ho)); have HP := Lib.hid h; (try have HPlen := Lib.hid HTlen.out); (try have HPi := Lib.hid HTi.out); clear h; replace HO := Lib.hid (on_new HO.out ho); clear ho)
            | (go_at_call 23; (with_reducible refine (Runs_v _ _ _ HS.out).mono ?_); rintro e wz ⟨⟨vz, rfl, h⟩, ho⟩; (try replace HT := Lib.hid (HT.out.later ho)); (try replace HS := Lib.hid (HS.out.later ho)); (try replace HP := Lib.hid (HP.out.later ho)); (try replace HZ := Lib.hid (HZ.out.later ho)); have HZ := Lib.hid h; clear h; replace HO := Lib.hid (on_new HO.out ho); clear ho)
            | (go_at_call 20; (with_reducible refine (Same_t _ _ _ _ _ HP.out HZ.out (HE.out _ HTu.out)).mono ?_); rintro e w23 ⟨rfl, ho⟩; (try replace HT := Lib.hid (HT.out.later ho)); (try replace HS := Lib.hid (HS.out.later ho)); (try replace HP := Lib.hid (HP.out.later ho)); (try replace HZ := Lib.hid (HZ.out.later ho)); replace HO := Lib.hid (on_new HO.out ho); clear ho))
          go_ret
          exact ⟨rfl, HO.out⟩
end Go.Proofs.Ytjnaejogclmooaa
