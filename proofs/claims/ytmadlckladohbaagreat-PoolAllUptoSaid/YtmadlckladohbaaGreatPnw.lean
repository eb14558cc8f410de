/-
  The shelf's Right; a pool: New.
-/
import Derived.Test.YtmadlckladohbaaGreatPsa
set_option linter.unusedVariables false
namespace Go.Proofs.YtmadlckladohbaaGreat
open Go.RowKit Go.Shelf

/-- Right runs of pages that there may be, and of no meta's. -/
def MayS (l : List R) : Prop := right l = true ∧ ∀ p, inn l p = true → 2 ≤ p ∧ p < 16384
theorem mayS_iff {l : List R} (h : right l = true) : MayS l ↔ endOf l ≤ 16384 ∧ ∀ x, l[0]? = some x → 2 ≤ x.1 := by
  obtain ⟨f1, f2, f3, f4⟩ := endOf_facts h
  constructor
  · rintro ⟨_, h2⟩
    refine ⟨?_, fun x hx => ?_⟩
    · by_cases e : 0 < endOf l
      · have := h2 _ (f4 e); omega
      · omega
    · have hm := right_may h x (List.mem_of_getElem? hx)
      have := (may_iff x).1 hm
      exact (h2 x.1 ((inn_iff _ _).2 ⟨x, List.mem_of_getElem? hx, by omega, by omega⟩)).1
  · rintro ⟨h1, h2⟩
    refine ⟨h, fun p hp => ⟨?_, by have := f3 p hp; omega⟩⟩
    cases l with
    | nil => simp [inn] at hp
    | cons x l =>
      have hx := h2 x rfl
      obtain ⟨hm, hr⟩ := right_cons.1 h
      rcases (inn_cons _ _ _).1 hp with h | h
      · unfold within at h; omega
      · have := beyond hr h
        have := (may_iff x).1 hm
        omega
def MaySays (w : World) (l : List R) (e : Ending) (w' : World) : Prop := (∃ b : Bool, e = .returned (.bool b) ∧ (b = true ↔ MayS l)) ∧ Only (w.heap.size ≤ ·) w w'

set_option maxRecDepth 100000 in
set_option maxHeartbeats 6400000 in
theorem smayBe_c (w : World) (v : Value) (l : List R) (h : Row w v l) (hi : ∀ x ∈ l, I64 x) : Calls Tryz.prog 49 #[v] w (MaySays w l) := by
  have HRC : Hid (∀ W, Only (w.heap.size ≤ ·) w W → Calls Tryz.prog 66 #[v] W (Told W (.bool (right l)))) := Lib.hid fun W hW => by
    obtain ⟨A, c, rfl, h1, _, h3, h4⟩ := h.later hW
    exact Right_c W A _ c l h1 rfl hi h3 h4
  have HEC : Hid (∀ W, Only (w.heap.size ≤ ·) w W → Calls Tryz.prog 26 #[v] W (Told W (.int .i64 (endOf (known l))))) := Lib.hid fun W hW => End_c W v l (h.later hW) hi
  have HO : Hid (Only (w.heap.size ≤ ·) w w) := Lib.hid (Only.refl _ w)
  by_cases hr : right l = true
  · have hkn : known l = l := known_of hr
    rw [hr] at HRC
    rw [hkn] at HEC
    have HIFF := Lib.hid (mayS_iff hr)
    obtain ⟨E, hE⟩ : ∃ E, E = endOf l := ⟨_, rfl⟩
    rw [← hE] at HEC HIFF
    cases l with
    | nil =>
      obtain ⟨A, c, hv, _⟩ := h
      replace hv : v = .slice A 0 c := hv
      subst hv
      have he : E = 0 := by rw [hE]; rfl
      subst he
      clear hr hkn hE hi
      go_enter Tryz.func49, Tryz.ntmps49
      go_wp2_with (first
        | (go_at_call 66; (with_reducible refine (HRC.out _ HO.out).mono ?_); rintro e w1 ⟨rfl, ho⟩; have HO1 := Lib.hid (on_new HO.out ho); clear ho)
        | (go_at_call 26; (with_reducible refine (HEC.out _ HO1.out).mono ?_); rintro e w2 ⟨rfl, ho⟩; have HO2 := Lib.hid (on_new HO1.out ho); clear ho))
      go_ret
      exact ⟨⟨_, rfl, by rw [HIFF.out]; simp⟩, HO2.out⟩
    | cons x t =>
      have HROW := Lib.hid h
      obtain ⟨A, c, rfl, hrs, _, hnc, hcm⟩ := h
      obtain ⟨b, off, y, rfl, hb, hy, q0, q1⟩ := hrs.at_ (k := 0) (by simp)
      have hxy : y = x := by simpa using hy.symm
      subst hxy
      have HQ : Hid (∀ W, Only (w.heap.size ≤ ·) w W → W.cell? ⟨b, off, none⟩ = some (.int .i64 y.1)) := Lib.hid fun W hW => (hW.cell (p := ⟨b, off, none⟩) (Nat.not_le.2 hb)).trans (by simpa using q0)
      obtain ⟨n, hn⟩ : ∃ n, n = (y :: t).length := ⟨_, rfl⟩
      rw [← hn] at HRC HEC hnc ⊢
      have hn0 : 0 < n := by rw [hn]; simp
      have hn1 : ¬ (n : Int) = 0 := by omega
      have hn2 : decide ((n : Int) = 0) = false := decide_eq_false hn1
      have hn3 : (0 : Int) < (n : Int) := by omega
      have HIF2 : Hid (MayS (y :: t) ↔ E ≤ 16384 ∧ 2 ≤ y.1) := Lib.hid (by rw [HIFF.out]; simp)
      obtain ⟨y1, y2⟩ := y
      simp only at HQ HIF2
      clear hr hkn hE hi hy q0 q1 hrs HIFF hn
      by_cases hE : E ≤ 16384
      · have d1 : decide (E ≤ 16384) = true := decide_eq_true hE
        by_cases hy : 2 ≤ y1
        · have d2 : decide (2 ≤ y1) = true := decide_eq_true hy
          go_enter Tryz.func49, Tryz.ntmps49
          go_wp2_with (first
            | (go_at_call 66; (with_reducible refine (HRC.out _ HO.out).mono ?_); rintro e w1 ⟨rfl, ho⟩; have HO1 := Lib.hid (on_new HO.out ho); clear ho)
            | (go_at_call 26; (with_reducible refine (HEC.out _ HO1.out).mono ?_); rintro e w2 ⟨rfl, ho⟩; have HO2 := Lib.hid (on_new HO1.out ho); have q0 := HQ.out _ HO2.out; clear ho))
          go_ret
          exact ⟨⟨_, rfl, by rw [HIF2.out]; simp [hE, hy]⟩, HO2.out⟩
        · have d2 : decide (2 ≤ y1) = false := decide_eq_false hy
          go_enter Tryz.func49, Tryz.ntmps49
          go_wp2_with (first
            | (go_at_call 66; (with_reducible refine (HRC.out _ HO.out).mono ?_); rintro e w1 ⟨rfl, ho⟩; have HO1 := Lib.hid (on_new HO.out ho); clear ho)
            | (go_at_call 26; (with_reducible refine (HEC.out _ HO1.out).mono ?_); rintro e w2 ⟨rfl, ho⟩; have HO2 := Lib.hid (on_new HO1.out ho); have q0 := HQ.out _ HO2.out; clear ho))
          go_ret
          exact ⟨⟨_, rfl, by rw [HIF2.out]; simp [hE] <;> omega⟩, HO2.out⟩
      · have d1 : decide (E ≤ 16384) = false := decide_eq_false hE
        go_enter Tryz.func49, Tryz.ntmps49
        go_wp2_with (first
          | (go_at_call 66; (with_reducible refine (HRC.out _ HO.out).mono ?_); rintro e w1 ⟨rfl, ho⟩; have HO1 := Lib.hid (on_new HO.out ho); clear ho)
          | (go_at_call 26; (with_reducible refine (HEC.out _ HO1.out).mono ?_); rintro e w2 ⟨rfl, ho⟩; have HO2 := Lib.hid (on_new HO1.out ho); clear ho))
        go_ret
        exact ⟨⟨_, rfl, by rw [HIF2.out]; simp <;> omega⟩, HO2.out⟩
  · have hrf : right l = false := by simpa using hr
    rw [hrf] at HRC
    have HN : Hid (¬ MayS l) := Lib.hid fun hm => hr hm.1
    clear h hr hrf hi
    go_enter Tryz.func49, Tryz.ntmps49
    go_wp2_with (go_at_call 66; (with_reducible refine (HRC.out _ HO.out).mono ?_); rintro e w1 ⟨rfl, ho⟩; have HO1 := Lib.hid (on_new HO.out ho); clear ho)
    go_ret
    exact ⟨⟨_, rfl, by simp [HN.out]⟩, HO1.out⟩

def RightS (a b : List R) : Prop := MayS a ∧ MayS b ∧ ∀ p, inn a p = true → ¬ inn b p = true
theorem box_two {w : World} {bx : Nat} {t : TypeId} {u v : Value} (h : Blk w bx t [u, v]) : w.cell? ⟨bx, 0, none⟩ = some u ∧ w.cell? ⟨bx, 1, none⟩ = some v := ⟨by rw [h.cell]; rfl, by rw [h.cell]; rfl⟩

set_option maxRecDepth 100000 in
set_option maxHeartbeats 6400000 in
theorem sRight_c (w : World) (A B : Option Addr) (nn cc mm dd : Nat) (a b : List R) (ha : Row w (.slice A nn cc) a) (hb : Row w (.slice B mm dd) b) (hai : ∀ x ∈ a, I64 x) (hbi : ∀ x ∈ b, I64 x) :
    Calls Tryz.prog 25 #[.agg #[.slice A nn cc, .slice B mm dd]] w fun e w' => (∃ r : Bool, e = .returned (.bool r) ∧ (r = true ↔ RightS a b)) ∧ Only (w.heap.size ≤ ·) w w' := by
  obtain ⟨w2, hw2⟩ : ∃ w2, w2 = w.alloc (.cells #[.slice A nn cc, .slice B mm dd] 35) := ⟨_, rfl⟩
  obtain ⟨bx, hbx⟩ : ∃ bx, bx = w.heap.size := ⟨_, rfl⟩
  have HBX : Hid (Blk w2 bx 35 [.slice A nn cc, .slice B mm dd]) := Lib.hid (by rw [hw2, hbx]; exact Blk.new w _ _)
  have HO : Hid (Only (w.heap.size ≤ ·) w w2) := Lib.hid (by rw [hw2]; exact (Only.refl _ w).alloc (fun _ h => h) _)
  have HEQ : Hid (w2 = w.alloc (.cells #[.slice A nn cc, .slice B mm dd] 35) ∧ bx = w.heap.size) := Lib.hid ⟨hw2, hbx⟩
  have HMA := Lib.hid fun (W : World) (hW : Only (w.heap.size ≤ ·) w W) => smayBe_c W (.slice A nn cc) a (ha.later hW) hai
  have HMB := Lib.hid fun (W : World) (hW : Only (w.heap.size ≤ ·) w W) => smayBe_c W (.slice B mm dd) b (hb.later hW) hbi
  have HMT := Lib.hid fun (W : World) (hW : Only (w.heap.size ≤ ·) w W) => Meet_c W (.slice A nn cc) (.slice B mm dd) a b (ha.later hW) (hb.later hW) hai hbi
  clear ha hb hai hbi hw2 hbx
  by_cases h1 : MayS a
  · by_cases h2 : MayS b
    · have H1 := Lib.hid h1
      have H2 := Lib.hid h2
      replace HMA : Hid (∀ W, Only (w.heap.size ≤ ·) w W → Calls Tryz.prog 49 #[.slice A nn cc] W (Told W (.bool true))) := Lib.hid fun W hW => (HMA.out W hW).mono fun e w' ⟨⟨r, r1, r2⟩, r3⟩ => ⟨by rw [r1, r2.2 H1.out], r3⟩
      replace HMB : Hid (∀ W, Only (w.heap.size ≤ ·) w W → Calls Tryz.prog 49 #[.slice B mm dd] W (Told W (.bool true))) := Lib.hid fun W hW => (HMB.out W hW).mono fun e w' ⟨⟨r, r1, r2⟩, r3⟩ => ⟨by rw [r1, r2.2 H2.out], r3⟩
      clear h1 h2
      go_enter Tryz.func25, Tryz.ntmps25
      go_upto_region 1 with (fail)
      rw [← HEQ.out.1, ← HEQ.out.2]
      obtain ⟨q0, q1⟩ := box_two HBX.out
      go_wp2_with (first
        | (go_at_call 49; (with_reducible refine (HMA.out _ HO.out).mono ?_); rintro e w3 ⟨rfl, ho⟩; have HO3 := Lib.hid (on_new HO.out ho); have HB3 := Lib.hid (HBX.out.later ho); obtain ⟨p0, p1⟩ := box_two HB3.out; clear ho)
        | (go_at_call 49; (with_reducible refine (HMB.out _ HO3.out).mono ?_); rintro e w4 ⟨rfl, ho⟩; have HO4 := Lib.hid (on_new HO3.out ho); have HB4 := Lib.hid (HB3.out.later ho); obtain ⟨s0, s1⟩ := box_two HB4.out; clear ho)
        | (go_at_call 50; (with_reducible refine (HMT.out _ HO4.out).mono ?_); rintro e w5 ⟨r, rfl, hr, ho⟩; have HR := Lib.hid hr; have HO5 := Lib.hid (on_new HO4.out ho); clear ho hr))
      go_ret
      refine ⟨⟨_, rfl, ?_⟩, HO5.out⟩
      have e1 : ∀ p, Mem a p ↔ inn a p = true := fun p => by unfold Mem; rw [known_of H1.out.1]
      have e2 : ∀ p, Mem b p ↔ inn b p = true := fun p => by unfold Mem; rw [known_of H2.out.1]
      have hr := HR.out
      constructor
      · intro h
        refine ⟨H1.out, H2.out, fun p hp hq => ?_⟩
        rw [hr.2 ⟨p, (e1 p).2 hp, (e2 p).2 hq⟩] at h
        simp at h
      · rintro ⟨_, _, h⟩
        cases r
        · rfl
        · obtain ⟨p, p1, p2⟩ := hr.1 rfl
          exact absurd ((e2 p).1 p2) (h p ((e1 p).1 p1))
    · have HN : Hid (¬ RightS a b) := Lib.hid fun h => h2 h.2.1
      have H1 := Lib.hid h1
      have H2 := Lib.hid h2
      replace HMA : Hid (∀ W, Only (w.heap.size ≤ ·) w W → Calls Tryz.prog 49 #[.slice A nn cc] W (Told W (.bool true))) := Lib.hid fun W hW => (HMA.out W hW).mono fun e w' ⟨⟨r, r1, r2⟩, r3⟩ => ⟨by rw [r1, r2.2 H1.out], r3⟩
      replace HMB : Hid (∀ W, Only (w.heap.size ≤ ·) w W → Calls Tryz.prog 49 #[.slice B mm dd] W (Told W (.bool false))) := Lib.hid fun W hW => (HMB.out W hW).mono fun e w' ⟨⟨r, r1, r2⟩, r3⟩ => ⟨by rw [r1, Bool.eq_false_iff.2 fun e => H2.out (r2.1 e)], r3⟩
      clear h1 h2
      go_enter Tryz.func25, Tryz.ntmps25
      go_upto_region 1 with (fail)
      rw [← HEQ.out.1, ← HEQ.out.2]
      obtain ⟨q0, q1⟩ := box_two HBX.out
      go_wp2_with (first
        | (go_at_call 49; (with_reducible refine (HMA.out _ HO.out).mono ?_); rintro e w3 ⟨rfl, ho⟩; have HO3 := Lib.hid (on_new HO.out ho); have HB3 := Lib.hid (HBX.out.later ho); obtain ⟨p0, p1⟩ := box_two HB3.out; clear ho)
        | (go_at_call 49; (with_reducible refine (HMB.out _ HO3.out).mono ?_); rintro e w4 ⟨rfl, ho⟩; have HO4 := Lib.hid (on_new HO3.out ho); clear ho))
      go_ret
      exact ⟨⟨_, rfl, by simp [HN.out]⟩, HO4.out⟩
  · have HN : Hid (¬ RightS a b) := Lib.hid fun h => h1 h.1
    have H1 := Lib.hid h1
    replace HMA : Hid (∀ W, Only (w.heap.size ≤ ·) w W → Calls Tryz.prog 49 #[.slice A nn cc] W (Told W (.bool false))) := Lib.hid fun W hW => (HMA.out W hW).mono fun e w' ⟨⟨r, r1, r2⟩, r3⟩ => ⟨by rw [r1, Bool.eq_false_iff.2 fun e => H1.out (r2.1 e)], r3⟩
    clear h1
    go_enter Tryz.func25, Tryz.ntmps25
    go_upto_region 1 with (fail)
    rw [← HEQ.out.1, ← HEQ.out.2]
    obtain ⟨q0, q1⟩ := box_two HBX.out
    go_wp2_with (go_at_call 49; (with_reducible refine (HMA.out _ HO.out).mono ?_); rintro e w3 ⟨rfl, ho⟩; have HO3 := Lib.hid (on_new HO.out ho); clear ho)
    go_ret
    exact ⟨⟨_, rfl, by simp [HN.out]⟩, HO3.out⟩

def NewOk (a b : List R) (t p l : Int) : Prop := 2 ≤ p ∧ p ≤ l ∧ l ≤ 16384 ∧ 0 ≤ t ∧ RightS a b ∧ endOf a ≤ p ∧ endOf b ≤ p
def NewS (a b : List R) (t p l : Int) : PS := { pages := p, limit := l, F := fun q => inn a q = true, H := fun u q => u = t ∧ inn b q = true }
theorem NewS_ok {a b : List R} {t p l : Int} (h : NewOk a b t p l) : (NewS a b t p l).Ok := by
  obtain ⟨h1, h2, h3, h4, ⟨h5, h6, h7⟩, h8, h9⟩ := h
  refine ⟨h1, h2, h3, fun q hq => ⟨(h5.2 q hq).1, ?_⟩, fun u q hq => ⟨?_, (h6.2 q hq.2).1, ?_⟩, fun u q hq hf => h7 q hf hq.2, fun u v q hu hv => by rw [hu.1, hv.1]⟩
  · have := (endOf_facts h5.1).2.2.1 q hq
    show q < p
    omega
  · rw [hq.1]; exact h4
  · have := (endOf_facts h6.1).2.2.1 q hq.2
    show q < p
    omega
def NewNo (w : World) (e : Ending) (w' : World) : Prop := e = .returned (.tuple #[.pointer none, .int .i64 1]) ∧ Only (w.heap.size ≤ ·) w w'
def NewSays (w : World) (S : PS) (e : Ending) (w' : World) : Prop := ∃ pb mb, e = .returned (.tuple #[.pointer (some ⟨pb, 0, none⟩), .int .i64 0]) ∧ w.heap.size ≤ pb ∧ w.heap.size ≤ mb ∧ At w' pb mb 1 S ∧ Only (w.heap.size ≤ ·) w w'

set_option maxRecDepth 100000 in
set_option maxHeartbeats 6400000 in
theorem New_arg (w : World) (s : Value) (A B : Option Addr) (nn cc mm dd : Nat) (t p l : Int) (hs : s = .agg #[.slice A nn cc, .slice B mm dd]) (h : p < 2 ∨ l < p ∨ 16384 < l ∨ t < 0) : Calls Tryz.prog 6 #[s, .int .i64 t, .int .i64 p, .int .i64 l] w (NewNo w) := by
  subst hs
  have HO : Hid (Only (w.heap.size ≤ ·) w (w.alloc (.cells #[.slice A nn cc, .slice B mm dd] 35))) := Lib.hid ((Only.refl _ w).alloc (fun _ h => h) _)
  by_cases d1 : p < 2
  · clear h
    go_enter Tryz.func6, Tryz.ntmps6
    go_wp2
    go_ret2
    exact ⟨rfl, HO.out⟩
  · by_cases d2 : l < p
    · clear h
      go_enter Tryz.func6, Tryz.ntmps6
      go_wp2
      go_ret2
      exact ⟨rfl, HO.out⟩
    · by_cases d3 : 16384 < l
      · clear h
        go_enter Tryz.func6, Tryz.ntmps6
        go_wp2
        go_ret2
        exact ⟨rfl, HO.out⟩
      · have d4 : t < 0 := by omega
        clear h
        go_enter Tryz.func6, Tryz.ntmps6
        go_wp2
        go_ret2
        exact ⟨rfl, HO.out⟩

set_option maxRecDepth 100000 in
set_option maxHeartbeats 6400000 in
theorem New_no (w : World) (A B : Option Addr) (nn cc mm dd : Nat) (a b : List R) (t p l : Int) (ha : Row w (.slice A nn cc) a) (hb : Row w (.slice B mm dd) b) (hai : ∀ x ∈ a, I64 x) (hbi : ∀ x ∈ b, I64 x) (hn : ¬ (p < 2 ∨ l < p ∨ 16384 < l ∨ t < 0)) (hx : ¬ NewOk a b t p l) :
    Calls Tryz.prog 6 #[.agg #[.slice A nn cc, .slice B mm dd], .int .i64 t, .int .i64 p, .int .i64 l] w (NewNo w) := by
  obtain ⟨w2, hw2⟩ : ∃ w2, w2 = w.alloc (.cells #[.slice A nn cc, .slice B mm dd] 35) := ⟨_, rfl⟩
  obtain ⟨bx, hbx⟩ : ∃ bx, bx = w.heap.size := ⟨_, rfl⟩
  have HBX : Hid (Blk w2 bx 35 [.slice A nn cc, .slice B mm dd]) := Lib.hid (by rw [hw2, hbx]; exact Blk.new w _ _)
  have HOW : Hid (Only (w.heap.size ≤ ·) w w2) := Lib.hid (by rw [hw2]; exact (Only.refl _ w).alloc (fun _ h => h) _)
  have HEQ : Hid (w2 = w.alloc (.cells #[.slice A nn cc, .slice B mm dd] 35) ∧ bx = w.heap.size) := Lib.hid ⟨hw2, hbx⟩
  have HR := Lib.hid fun (W : World) (hW : Only (w.heap.size ≤ ·) w W) => sRight_c W A B nn cc mm dd a b (ha.later hW) (hb.later hW) hai hbi
  have HEA := Lib.hid fun (W : World) (hW : Only (w.heap.size ≤ ·) w W) => End_c W (.slice A nn cc) a (ha.later hW) hai
  have HEB := Lib.hid fun (W : World) (hW : Only (w.heap.size ≤ ·) w W) => End_c W (.slice B mm dd) b (hb.later hW) hbi
  obtain ⟨d1, d2, d3, d4⟩ : ¬ p < 2 ∧ ¬ l < p ∧ ¬ 16384 < l ∧ ¬ t < 0 := by omega
  clear ha hb hai hbi hw2 hbx hn
  by_cases hr : RightS a b
  · have hka : known a = a := known_of hr.1.1
    have hkb : known b = b := known_of hr.2.1.1
    rw [hka] at HEA
    rw [hkb] at HEB
    obtain ⟨Ea, hEa⟩ : ∃ Ea, Ea = endOf a := ⟨_, rfl⟩
    obtain ⟨Eb, hEb⟩ : ∃ Eb, Eb = endOf b := ⟨_, rfl⟩
    rw [← hEa] at HEA
    rw [← hEb] at HEB
    have hbig : p < max Ea Eb := by
      have : ¬ (endOf a ≤ p ∧ endOf b ≤ p) := fun h => hx ⟨by omega, by omega, by omega, by omega, hr, h.1, h.2⟩
      rw [hEa, hEb]
      omega
    have HRR := Lib.hid hr
    have HRT : Hid (∀ W, Only (w.heap.size ≤ ·) w W → Calls Tryz.prog 25 #[.agg #[.slice A nn cc, .slice B mm dd]] W (Told W (.bool true))) := Lib.hid fun W hW => (HR.out W hW).mono fun e w' ⟨⟨r, r1, r2⟩, r3⟩ => ⟨by rw [r1, r2.2 HRR.out], r3⟩
    have hd : decide (p < max Ea Eb) = true := decide_eq_true hbig
    clear hr hx hka hkb hEa hEb
    go_enter Tryz.func6, Tryz.ntmps6
    go_upto_region 3 with (fail)
    rw [← HEQ.out.1, ← HEQ.out.2]
    replace HOW := Lib.hid HOW.out.drew
    replace HBX := Lib.hid HBX.out.drew
    refine wp_region_list (B := [false, false, false, false, false, false, false, false, false, false, false, false, false, false]) (S := (fun W => W.cell? ⟨bx, 0, none⟩ = some (.slice A nn cc) ∧ W.cell? ⟨bx, 1, none⟩ = some (.slice B mm dd))) (by kernel_rfl) (by kernel_rfl) (by kernel_rfl) (box_two HBX.out) (fun hsel hHeld => ?_)
    generalize hwz : World.drew _ = wz at HOW HBX hHeld ⊢
    clear hwz
    refine oneA 0 26 hsel (h := ?_)
    simp only [Act.put, List.setIfInBounds_toArray, List.set_cons_zero, List.set_cons_succ]
    refine wpAnyL_ready (rs := [1]) (by kernel_rfl) (by kernel_rfl) (by simp) ?_
    refine AllReadyL.cons (o := ?_) ?_ (fun K hK => ?_) AllReadyL.nil
    case refine_2 => (simp only [List.getElem?_cons_succ, List.getElem?_cons_zero]; rfl)
    go_simp
    (go_at_call 25; (with_reducible refine (HRT.out _ HOW.out).mono ?_); rintro ee w5 ⟨rfl, ho⟩; have HO5 := Lib.hid (on_new HOW.out ho); have HB5 := Lib.hid (HBX.out.later ho); clear ho)
    go_wp2_with (fail)
    clear hHeld
    refine hK.out _ _ (box_two HB5.out) (fun hHeld => ?_)
    clear hK K
    try simp only [Act.put, List.setIfInBounds_toArray, List.set_cons_zero, List.set_cons_succ]
    refine oneA 2 28 hsel (h := ?_)
    simp only [Act.put, List.setIfInBounds_toArray, List.set_cons_zero, List.set_cons_succ]
    refine oneA 3 29 hsel (h := ?_)
    simp only [Act.put, List.setIfInBounds_toArray, List.set_cons_zero, List.set_cons_succ]
    refine oneA 4 30 hsel (h := ?_)
    simp only [Act.put, List.setIfInBounds_toArray, List.set_cons_zero, List.set_cons_succ]
    refine oneA 5 31 hsel (h := ?_)
    simp only [Act.put, List.setIfInBounds_toArray, List.set_cons_zero, List.set_cons_succ]
    refine oneA 7 33 hsel (h := ?_)
    simp only [Act.put, List.setIfInBounds_toArray, List.set_cons_zero, List.set_cons_succ]
    refine oneA 8 34 hsel (h := ?_)
    simp only [Act.put, List.setIfInBounds_toArray, List.set_cons_zero, List.set_cons_succ]
    refine oneA 11 37 hsel (h := ?_)
    simp only [Act.put, List.setIfInBounds_toArray, List.set_cons_zero, List.set_cons_succ]
    refine wpAnyL_ready (rs := [6]) (by kernel_rfl) (by kernel_rfl) (by simp) ?_
    refine AllReadyL.cons (o := ?_) ?_ (fun K hK => ?_) AllReadyL.nil
    case refine_2 => (simp only [List.getElem?_cons_succ, List.getElem?_cons_zero]; rfl)
    go_simp
    (go_at_call 26; (with_reducible refine (HEA.out _ HO5.out).mono ?_); rintro ee w6 ⟨rfl, ho⟩; have HO6 := Lib.hid (on_new HO5.out ho); have HB6 := Lib.hid (HB5.out.later ho); clear ho)
    go_wp2_with (fail)
    clear hHeld
    refine hK.out _ _ (box_two HB6.out) (fun hHeld => ?_)
    clear hK K
    try simp only [Act.put, List.setIfInBounds_toArray, List.set_cons_zero, List.set_cons_succ]
    refine wpAnyL_ready (rs := [9]) (by kernel_rfl) (by kernel_rfl) (by simp) ?_
    refine AllReadyL.cons (o := ?_) ?_ (fun K hK => ?_) AllReadyL.nil
    case refine_2 => (simp only [List.getElem?_cons_succ, List.getElem?_cons_zero]; rfl)
    go_simp
    (go_at_call 26; (with_reducible refine (HEB.out _ HO6.out).mono ?_); rintro ee w7 ⟨rfl, ho⟩; have HO7 := Lib.hid (on_new HO6.out ho); have HB7 := Lib.hid (HB6.out.later ho); clear ho)
    go_wp2_with (fail)
    clear hHeld
    refine hK.out _ _ (box_two HB7.out) (fun hHeld => ?_)
    clear hK K
    try simp only [Act.put, List.setIfInBounds_toArray, List.set_cons_zero, List.set_cons_succ]
    refine oneA 10 36 hsel (h := ?_)
    simp only [Act.put, List.setIfInBounds_toArray, List.set_cons_zero, List.set_cons_succ]
    refine oneA 12 38 hsel (h := ?_)
    simp only [Act.put, List.setIfInBounds_toArray, List.set_cons_zero, List.set_cons_succ]
    refine oneA 13 39 hsel (h := ?_)
    simp only [Act.put, List.setIfInBounds_toArray, List.set_cons_zero, List.set_cons_succ]
    refine wpAnyL_done (by kernel_rfl) (by kernel_rfl) ?_ _
    clear hsel hHeld
    go_wp2_with (fail)
    go_ret2
    exact ⟨rfl, HO7.out⟩
  · have HRR := Lib.hid hr
    have HRT : Hid (∀ W, Only (w.heap.size ≤ ·) w W → Calls Tryz.prog 25 #[.agg #[.slice A nn cc, .slice B mm dd]] W (Told W (.bool false))) := Lib.hid fun W hW => (HR.out W hW).mono fun e w' ⟨⟨r, r1, r2⟩, r3⟩ => ⟨by rw [r1, Bool.eq_false_iff.2 fun e => HRR.out (r2.1 e)], r3⟩
    clear hr hx
    go_enter Tryz.func6, Tryz.ntmps6
    go_upto_region 3 with (fail)
    rw [← HEQ.out.1, ← HEQ.out.2]
    replace HOW := Lib.hid HOW.out.drew
    replace HBX := Lib.hid HBX.out.drew
    refine wp_region_list (B := [false, false, false, false, false, false, false, false, false, false, false, false, false, false]) (S := (fun W => W.cell? ⟨bx, 0, none⟩ = some (.slice A nn cc) ∧ W.cell? ⟨bx, 1, none⟩ = some (.slice B mm dd))) (by kernel_rfl) (by kernel_rfl) (by kernel_rfl) (box_two HBX.out) (fun hsel hHeld => ?_)
    generalize hwz : World.drew _ = wz at HOW HBX hHeld ⊢
    clear hwz
    refine oneA 0 26 hsel (h := ?_)
    simp only [Act.put, List.setIfInBounds_toArray, List.set_cons_zero, List.set_cons_succ]
    refine wpAnyL_ready (rs := [1]) (by kernel_rfl) (by kernel_rfl) (by simp) ?_
    refine AllReadyL.cons (o := ?_) ?_ (fun K hK => ?_) AllReadyL.nil
    case refine_2 => (simp only [List.getElem?_cons_succ, List.getElem?_cons_zero]; rfl)
    go_simp
    (go_at_call 25; (with_reducible refine (HRT.out _ HOW.out).mono ?_); rintro ee w5 ⟨rfl, ho⟩; have HO5 := Lib.hid (on_new HOW.out ho); have HB5 := Lib.hid (HBX.out.later ho); clear ho)
    go_wp2_with (fail)
    clear hHeld
    refine hK.out _ _ (box_two HB5.out) (fun hHeld => ?_)
    clear hK K
    try simp only [Act.put, List.setIfInBounds_toArray, List.set_cons_zero, List.set_cons_succ]
    refine oneA 2 28 hsel (h := ?_)
    simp only [Act.put, List.setIfInBounds_toArray, List.set_cons_zero, List.set_cons_succ]
    refine oneA 3 29 hsel (h := ?_)
    simp only [Act.put, List.setIfInBounds_toArray, List.set_cons_zero, List.set_cons_succ]
    refine take_skipL (i := 4) (d := 30) (oi := ?_) ?_ hsel (by kernel_rfl) (by kernel_rfl) (fun _ _ _ h => h) ?_ ?_ (by assumption) ?_
    case refine_2 => (simp only [List.getElem?_cons_succ, List.getElem?_cons_zero]; rfl)
    case refine_3 => rfl
    case refine_4 => rfl
    simp only [Act.put, List.setIfInBounds_toArray, List.set_cons_zero, List.set_cons_succ]
    refine take_skipL (i := 5) (d := 31) (oi := ?_) ?_ hsel (by kernel_rfl) (by kernel_rfl) (fun _ _ _ h => h) ?_ ?_ (by assumption) ?_
    case refine_2 => (simp only [List.getElem?_cons_succ, List.getElem?_cons_zero]; rfl)
    case refine_3 => rfl
    case refine_4 => rfl
    simp only [Act.put, List.setIfInBounds_toArray, List.set_cons_zero, List.set_cons_succ]
    refine take_skipL (i := 6) (d := 32) (oi := ?_) ?_ hsel (by kernel_rfl) (by kernel_rfl) (fun _ _ _ h => h) ?_ ?_ (by assumption) ?_
    case refine_2 => (simp only [List.getElem?_cons_succ, List.getElem?_cons_zero]; rfl)
    case refine_3 => rfl
    case refine_4 => rfl
    simp only [Act.put, List.setIfInBounds_toArray, List.set_cons_zero, List.set_cons_succ]
    refine take_skipL (i := 7) (d := 33) (oi := ?_) ?_ hsel (by kernel_rfl) (by kernel_rfl) (fun _ _ _ h => h) ?_ ?_ (by assumption) ?_
    case refine_2 => (simp only [List.getElem?_cons_succ, List.getElem?_cons_zero]; rfl)
    case refine_3 => rfl
    case refine_4 => rfl
    simp only [Act.put, List.setIfInBounds_toArray, List.set_cons_zero, List.set_cons_succ]
    refine take_skipL (i := 8) (d := 34) (oi := ?_) ?_ hsel (by kernel_rfl) (by kernel_rfl) (fun _ _ _ h => h) ?_ ?_ (by assumption) ?_
    case refine_2 => (simp only [List.getElem?_cons_succ, List.getElem?_cons_zero]; rfl)
    case refine_3 => rfl
    case refine_4 => rfl
    simp only [Act.put, List.setIfInBounds_toArray, List.set_cons_zero, List.set_cons_succ]
    refine take_skipL (i := 9) (d := 35) (oi := ?_) ?_ hsel (by kernel_rfl) (by kernel_rfl) (fun _ _ _ h => h) ?_ ?_ (by assumption) ?_
    case refine_2 => (simp only [List.getElem?_cons_succ, List.getElem?_cons_zero]; rfl)
    case refine_3 => rfl
    case refine_4 => rfl
    simp only [Act.put, List.setIfInBounds_toArray, List.set_cons_zero, List.set_cons_succ]
    refine take_skipL (i := 10) (d := 36) (oi := ?_) ?_ hsel (by kernel_rfl) (by kernel_rfl) (fun _ _ _ h => h) ?_ ?_ (by assumption) ?_
    case refine_2 => (simp only [List.getElem?_cons_succ, List.getElem?_cons_zero]; rfl)
    case refine_3 => rfl
    case refine_4 => rfl
    simp only [Act.put, List.setIfInBounds_toArray, List.set_cons_zero, List.set_cons_succ]
    refine take_skipL (i := 11) (d := 37) (oi := ?_) ?_ hsel (by kernel_rfl) (by kernel_rfl) (fun _ _ _ h => h) ?_ ?_ (by assumption) ?_
    case refine_2 => (simp only [List.getElem?_cons_succ, List.getElem?_cons_zero]; rfl)
    case refine_3 => rfl
    case refine_4 => rfl
    simp only [Act.put, List.setIfInBounds_toArray, List.set_cons_zero, List.set_cons_succ]
    refine take_skipL (i := 12) (d := 38) (oi := ?_) ?_ hsel (by kernel_rfl) (by kernel_rfl) (fun _ _ _ h => h) ?_ ?_ (by assumption) ?_
    case refine_2 => (simp only [List.getElem?_cons_succ, List.getElem?_cons_zero]; rfl)
    case refine_3 => rfl
    case refine_4 => rfl
    simp only [Act.put, List.setIfInBounds_toArray, List.set_cons_zero, List.set_cons_succ]
    refine oneA 13 39 hsel (h := ?_)
    simp only [Act.put, List.setIfInBounds_toArray, List.set_cons_zero, List.set_cons_succ]
    refine wpAnyL_done (by kernel_rfl) (by kernel_rfl) ?_ _
    clear hsel hHeld
    go_wp2_with (fail)
    go_ret2
    exact ⟨rfl, HO5.out⟩

set_option maxRecDepth 100000 in
set_option maxHeartbeats 6400000 in
theorem New_ok (w : World) (A B : Option Addr) (nn cc mm dd : Nat) (a b : List R) (t p l : Int) (ha : Row w (.slice A nn cc) a) (hb : Row w (.slice B mm dd) b) (ht : t ≤ 9223372036854775807) (hx : NewOk a b t p l) :
    Calls Tryz.prog 6 #[.agg #[.slice A nn cc, .slice B mm dd], .int .i64 t, .int .i64 p, .int .i64 l] w (NewSays w (NewS a b t p l)) := by
  have HX := Lib.hid hx
  obtain ⟨h1, h2, h3, h4, hr, h8, h9⟩ := hx
  have hai := i64_of hr.1.1
  have hbi := i64_of hr.2.1.1
  obtain ⟨w2, hw2⟩ : ∃ w2, w2 = w.alloc (.cells #[.slice A nn cc, .slice B mm dd] 35) := ⟨_, rfl⟩
  obtain ⟨bx, hbx⟩ : ∃ bx, bx = w.heap.size := ⟨_, rfl⟩
  have HBX : Hid (Blk w2 bx 35 [.slice A nn cc, .slice B mm dd]) := Lib.hid (by rw [hw2, hbx]; exact Blk.new w _ _)
  have HOW : Hid (Only (w.heap.size ≤ ·) w w2) := Lib.hid (by rw [hw2]; exact (Only.refl _ w).alloc (fun _ h => h) _)
  have HEQ : Hid (w2 = w.alloc (.cells #[.slice A nn cc, .slice B mm dd] 35) ∧ bx = w.heap.size) := Lib.hid ⟨hw2, hbx⟩
  have HEA := Lib.hid fun (W : World) (hW : Only (w.heap.size ≤ ·) w W) => End_c W (.slice A nn cc) a (ha.later hW) hai
  have HEB := Lib.hid fun (W : World) (hW : Only (w.heap.size ≤ ·) w W) => End_c W (.slice B mm dd) b (hb.later hW) hbi
  have HCA := Lib.hid fun (W : World) (hW : Only (w.heap.size ≤ ·) w W) => Clone_c W (.slice A nn cc) a (ha.later hW) (Nat.le_trans (right_length hr.1.1) (by decide))
  have HCB := Lib.hid fun (W : World) (hW : Only (w.heap.size ≤ ·) w W) => Clone_c W (.slice B mm dd) b (hb.later hW) (Nat.le_trans (right_length hr.2.1.1) (by decide))
  have HRR := Lib.hid hr
  have HRT : Hid (∀ W, Only (w.heap.size ≤ ·) w W → Calls Tryz.prog 25 #[.agg #[.slice A nn cc, .slice B mm dd]] W (Told W (.bool true))) := Lib.hid fun W hW => (sRight_c W A B nn cc mm dd a b (ha.later hW) (hb.later hW) hai hbi).mono fun e w' ⟨⟨r, r1, r2⟩, r3⟩ => ⟨by rw [r1, r2.2 HRR.out], r3⟩
  obtain ⟨d1, d2, d3, d4⟩ : ¬ p < 2 ∧ ¬ l < p ∧ ¬ 16384 < l ∧ ¬ t < 0 := by omega
  have hka : known a = a := known_of hr.1.1
  have hkb : known b = b := known_of hr.2.1.1
  rw [hka] at HEA
  rw [hkb] at HEB
  obtain ⟨Ea, hEa⟩ : ∃ Ea, Ea = endOf a := ⟨_, rfl⟩
  obtain ⟨Eb, hEb⟩ : ∃ Eb, Eb = endOf b := ⟨_, rfl⟩
  rw [← hEa] at HEA h8
  rw [← hEb] at HEB h9
  have HTW : Hid ((Lit.int .i64 t).wf = true) := Lib.hid (by simp [Lit.wf, IntKind.min, IntKind.max, IntKind.signed, IntKind.bits]; omega)
  have hd : decide (p < max Ea Eb) = false := decide_eq_false (by omega)
  clear hr hka hkb hEa hEb ha hb hai hbi hw2 hbx h8 h9 h1 h2 h3 h4 ht
  go_enter Tryz.func6, Tryz.ntmps6
  go_upto_region 3 with (fail)
  rw [← HEQ.out.1, ← HEQ.out.2]
  replace HOW := Lib.hid HOW.out.drew
  replace HBX := Lib.hid HBX.out.drew
  refine wp_region_list (B := [false, false, false, false, false, false, false, false, false, false, false, false, false, false]) (S := (fun W => W.cell? ⟨bx, 0, none⟩ = some (.slice A nn cc) ∧ W.cell? ⟨bx, 1, none⟩ = some (.slice B mm dd))) (by kernel_rfl) (by kernel_rfl) (by kernel_rfl) (box_two HBX.out) (fun hsel hHeld => ?_)
  generalize hwz : World.drew _ = wz at HOW HBX hHeld ⊢
  clear hwz
  refine oneA 0 26 hsel (h := ?_)
  simp only [Act.put, List.setIfInBounds_toArray, List.set_cons_zero, List.set_cons_succ]
  refine wpAnyL_ready (rs := [1]) (by kernel_rfl) (by kernel_rfl) (by simp) ?_
  refine AllReadyL.cons (o := ?_) ?_ (fun K hK => ?_) AllReadyL.nil
  case refine_2 => (simp only [List.getElem?_cons_succ, List.getElem?_cons_zero]; rfl)
  go_simp
  (go_at_call 25; (with_reducible refine (HRT.out _ HOW.out).mono ?_); rintro ee w5 ⟨rfl, ho⟩; have HO5 := Lib.hid (on_new HOW.out ho); have HB5 := Lib.hid (HBX.out.later ho); clear ho)
  go_wp2_with (fail)
  clear hHeld
  refine hK.out _ _ (box_two HB5.out) (fun hHeld => ?_)
  clear hK K
  try simp only [Act.put, List.setIfInBounds_toArray, List.set_cons_zero, List.set_cons_succ]
  refine oneA 2 28 hsel (h := ?_)
  simp only [Act.put, List.setIfInBounds_toArray, List.set_cons_zero, List.set_cons_succ]
  refine oneA 3 29 hsel (h := ?_)
  simp only [Act.put, List.setIfInBounds_toArray, List.set_cons_zero, List.set_cons_succ]
  refine oneA 4 30 hsel (h := ?_)
  simp only [Act.put, List.setIfInBounds_toArray, List.set_cons_zero, List.set_cons_succ]
  refine oneA 5 31 hsel (h := ?_)
  simp only [Act.put, List.setIfInBounds_toArray, List.set_cons_zero, List.set_cons_succ]
  refine oneA 7 33 hsel (h := ?_)
  simp only [Act.put, List.setIfInBounds_toArray, List.set_cons_zero, List.set_cons_succ]
  refine oneA 8 34 hsel (h := ?_)
  simp only [Act.put, List.setIfInBounds_toArray, List.set_cons_zero, List.set_cons_succ]
  refine oneA 11 37 hsel (h := ?_)
  simp only [Act.put, List.setIfInBounds_toArray, List.set_cons_zero, List.set_cons_succ]
  refine wpAnyL_ready (rs := [6]) (by kernel_rfl) (by kernel_rfl) (by simp) ?_
  refine AllReadyL.cons (o := ?_) ?_ (fun K hK => ?_) AllReadyL.nil
  case refine_2 => (simp only [List.getElem?_cons_succ, List.getElem?_cons_zero]; rfl)
  go_simp
  (go_at_call 26; (with_reducible refine (HEA.out _ HO5.out).mono ?_); rintro ee w6 ⟨rfl, ho⟩; have HO6 := Lib.hid (on_new HO5.out ho); have HB6 := Lib.hid (HB5.out.later ho); clear ho)
  go_wp2_with (fail)
  clear hHeld
  refine hK.out _ _ (box_two HB6.out) (fun hHeld => ?_)
  clear hK K
  try simp only [Act.put, List.setIfInBounds_toArray, List.set_cons_zero, List.set_cons_succ]
  refine wpAnyL_ready (rs := [9]) (by kernel_rfl) (by kernel_rfl) (by simp) ?_
  refine AllReadyL.cons (o := ?_) ?_ (fun K hK => ?_) AllReadyL.nil
  case refine_2 => (simp only [List.getElem?_cons_succ, List.getElem?_cons_zero]; rfl)
  go_simp
  (go_at_call 26; (with_reducible refine (HEB.out _ HO6.out).mono ?_); rintro ee w7 ⟨rfl, ho⟩; have HO7 := Lib.hid (on_new HO6.out ho); have HB7 := Lib.hid (HB6.out.later ho); clear ho)
  go_wp2_with (fail)
  clear hHeld
  refine hK.out _ _ (box_two HB7.out) (fun hHeld => ?_)
  clear hK K
  try simp only [Act.put, List.setIfInBounds_toArray, List.set_cons_zero, List.set_cons_succ]
  refine oneA 10 36 hsel (h := ?_)
  simp only [Act.put, List.setIfInBounds_toArray, List.set_cons_zero, List.set_cons_succ]
  refine oneA 12 38 hsel (h := ?_)
  simp only [Act.put, List.setIfInBounds_toArray, List.set_cons_zero, List.set_cons_succ]
  refine oneA 13 39 hsel (h := ?_)
  simp only [Act.put, List.setIfInBounds_toArray, List.set_cons_zero, List.set_cons_succ]
  refine wpAnyL_done (by kernel_rfl) (by kernel_rfl) ?_ _
  clear hsel hHeld
  have hmm := @run_makeMap Tryz.prog
  have HO8 : Hid (Only (w.heap.size ≤ ·) w (w7.alloc (.map #[] 0))) := Lib.hid (HO7.out.alloc (fun _ h => h) _)
  have HB8 : Hid (Blk (w7.alloc (.map #[] 0)) bx 35 [.slice A nn cc, .slice B mm dd]) := Lib.hid (HB7.out.alloc _)
  have HM8 : Hid ((w7.alloc (.map #[] 0)).ownsMap Tryz.prog 3 Rv w7.heap.size 0 (.map [])) := Lib.hid (World.ownsMap_made w7 Tryz.prog 3 Rv)
  obtain ⟨mb, hmb⟩ : ∃ mb, mb = w7.heap.size := ⟨_, rfl⟩
  have HMB := Lib.hid hmb
  rw [← hmb] at HM8
  obtain ⟨q0, q1⟩ := box_two HB8.out
  have HT7 := Lib.hid (And.intro d4 trivial)
  go_wp2_with (first
    | (go_at_call 27; rw [← hmb]; clear hmb; (with_reducible refine (HCB.out _ HO8.out).mono ?_); rintro ee w9 ⟨v9, n9, rfl, hv9, ho⟩; obtain ⟨A9, c9, rfl⟩ := hv9.slice; obtain ⟨w10, hup, hm10, hg10⟩ := World.ownsMap.update (World.ownsMap.kept HM8.out (new_grown ho none) (by simp)) keyed Tryz.underlying66 (by simp [maxLen]) (Maps.keyOf_int_mk Tryz.underlying3 HTW.out) (val := .slice A9 n9 c9) rfl; have HM10 := Lib.hid hm10; have HO10 : Hid (Only (w.heap.size ≤ ·) w w10) := Lib.hid ((on_new HO8.out ho).grown hg10 (fun _ h => h) (fun g e => by cases e; rw [HMB.out]; exact HO7.out.size)); have HB10 := Lib.hid ((HB8.out.later ho).grown hg10 (by intro e; cases e; have := HB7.out.lt; have := HMB.out; omega)); have HV10 := Lib.hid (hv9.row.past (F := fun k => k = mb ∨ w9.heap.size ≤ k) ((Only.refl _ w9).grown hg10 (fun k hk => .inr hk) (fun g e => by cases e; exact .inl rfl)) (fun k hk => hk.elim (fun e => .inr (.inl (e ▸ own_off hv9 (World.ownsMap.lt HM8.out)))) .inl)); obtain ⟨s0, s1⟩ := box_two HB10.out; clear hm10 hg10 hv9 ho)
    | (go_at_call 27; (with_reducible refine (HCA.out _ HO10.out).mono ?_); rintro ee w11 ⟨v11, n11, rfl, hv11, ho⟩; obtain ⟨A11, c11, rfl⟩ := hv11.slice; have HV11 := Lib.hid hv11.row; have HVB := Lib.hid (HV10.out.later ho); have HM11 := Lib.hid (World.ownsMap.kept HM10.out (new_grown ho none) (by simp)); have HO11 := Lib.hid (on_new HO10.out ho); clear hv11 ho))
  go_ret2
  have hO : Only (w11.heap.size ≤ ·) w11 (w11.alloc (.cells #[.int .i64 p, .int .i64 l, .slice A11 n11 c11, .map (some mb)] 68)) := (Only.refl _ w11).alloc (fun _ h => h) _
  have hmb : w.heap.size ≤ mb := by rw [HMB.out]; exact HO7.out.size
  refine ⟨_, mb, rfl, HO11.out.size, hmb, ⟨.slice A11 n11 c11, a, _, Blk.new w11 _ [.int .i64 p, .int .i64 l, .slice A11 n11 c11, .map (some mb)], HV11.out.later hO, HV11.out.off_new (Nat.le_refl _), ⟨HRR.out.1.1, fun q => Iff.rfl⟩, World.ownsMap.alloc HM11.out _, fun u => ?_⟩, on_new HO11.out hO⟩
  by_cases e : u = t
  · subst e
    exact ⟨_, b, Maps.atKey_put_same ⟨_, rfl⟩ (keyed.key (Maps.keyOf_int_mk Tryz.underlying3 HTW.out)) _ _, HVB.out.later hO, HVB.out.off_new (Nat.le_refl _), HRR.out.2.1.1, fun q => ⟨fun h => ⟨rfl, h⟩, fun h => h.2⟩⟩
  · exact ⟨nilV, [], by rw [Maps.atKey_put_other (key_ne e)]; rfl, Row.nil_ _, Off.nil_ _ _, rfl, fun q => ⟨fun h => by simp [inn] at h, fun h => absurd h.1 e⟩⟩
end Go.Proofs.YtmadlckladohbaaGreat
