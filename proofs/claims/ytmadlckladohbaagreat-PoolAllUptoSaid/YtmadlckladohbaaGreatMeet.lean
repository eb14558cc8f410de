/-
  Meet and Has of the program.
-/
import Derived.Test.YtmadlckladohbaaGreatPage
set_option linter.unusedVariables false
namespace Go.Proofs.YtmadlckladohbaaGreat
open Go.RowKit

def Common (a b : List R) : Prop := ∃ p, inn a p = true ∧ inn b p = true
theorem common_left {x y : R} {a b : List R} (ha : right (x :: a) = true) (hb : right (y :: b) = true) (h : x.1 + x.2 ≤ y.1) : Common (x :: a) (y :: b) ↔ Common a (y :: b) := by
  have hy := (may_iff y).1 (right_cons.1 hb).1
  constructor
  · rintro ⟨p, h1, h2⟩
    refine ⟨p, ?_, h2⟩
    rcases (inn_cons _ _ _).1 h1 with h1 | h1
    · rcases (inn_cons _ _ _).1 h2 with h2 | h2
      · unfold within at h1 h2; omega
      · have := beyond (right_cons.1 hb).2 h2; unfold within at h1; omega
    · exact h1
  · rintro ⟨p, h1, h2⟩
    exact ⟨p, (inn_cons _ _ _).2 (.inr h1), h2⟩
theorem common_comm (a b : List R) : Common a b ↔ Common b a := ⟨fun ⟨p, h1, h2⟩ => ⟨p, h2, h1⟩, fun ⟨p, h1, h2⟩ => ⟨p, h2, h1⟩⟩
theorem common_meet {x y : R} {a b : List R} (ha : right (x :: a) = true) (hb : right (y :: b) = true) (h : ¬ x.1 + x.2 ≤ y.1) (h' : ¬ y.1 + y.2 ≤ x.1) : Common (x :: a) (y :: b) := by
  have hx := (may_iff x).1 (right_cons.1 ha).1
  have hy := (may_iff y).1 (right_cons.1 hb).1
  exact ⟨max x.1 y.1, (inn_cons _ _ _).2 (.inl ⟨by omega, by omega⟩), (inn_cons _ _ _).2 (.inl ⟨by omega, by omega⟩)⟩

/-- What is left of a row behind its first run. -/
theorem Rs.tail {w : World} {b off : Nat} {x : R} {l : List R} (h : Rs w (some ⟨b, off, none⟩) (x :: l)) : Rs w (some ⟨b, off + 2, none⟩) l := fun hn => by
  obtain ⟨b', off', e, hb, hc⟩ := h (by simp)
  simp only [Option.some.injEq, Addr.mk.injEq, and_true] at e
  obtain ⟨rfl, rfl⟩ := e
  refine ⟨_, _, rfl, hb, fun j u hu => ?_⟩
  rw [show off + 2 + j = off + (j + 1 + 1) by omega]
  exact hc _ u (by rw [rc_cons, List.getElem?_cons_succ, List.getElem?_cons_succ]; exact hu)

set_option maxRecDepth 100000 in
set_option maxHeartbeats 6400000 in
theorem Meet_c (w : World) (v u : Value) (a b : List R) (h : Row w v a) (h' : Row w u b) (hra : ∀ x ∈ a, I64 x) (hrb : ∀ x ∈ b, I64 x) :
    Calls Tryz.prog 50 #[v, u] w fun e w' => ∃ r, e = .returned (.bool r) ∧ (r = true ↔ Common (known a) (known b)) ∧ Only (w.heap.size ≤ ·) w w' := by
  have HK := Lib.hid (knows_c w v a h hra)
  have HK' : Hid (∀ W : World, Only (w.heap.size ≤ ·) w W → Calls Tryz.prog 46 #[u] W (KnownSays W b)) := fun W hW => knows_c W u b (h'.later hW) hrb
  obtain ⟨r, hr⟩ : ∃ r : Bool, r = true ↔ Common (known a) (known b) := by
    by_cases hc : Common (known a) (known b)
    · exact ⟨true, ⟨fun _ => hc, fun _ => rfl⟩⟩
    · exact ⟨false, ⟨(fun h => by cases h), fun h => absurd h hc⟩⟩
  have HRR := Lib.hid hr
  clear h h' hra hrb hr
  suffices Calls Tryz.prog 50 #[v, u] w (Told w (.bool r)) from this.mono fun e w' ⟨h1, h2⟩ => ⟨r, h1, HRR.out, h2⟩
  go_enter Tryz.func50, Tryz.ntmps50
  go_wp2_with (first | (go_at_call 46; (with_reducible refine HK.out.mono ?_); rintro e w1 ⟨⟨A, n, c, rfl, hn, hs, hnc, hc⟩, ho1⟩; have HO1 := Lib.hid ho1; have HN := Lib.hid hn; have HS := Lib.hid hs; clear ho1 hn hs) | (go_at_call 46; refine (HK'.out _ HO1.out).mono ?_; rintro e w2 ⟨⟨B, m, d, rfl, hm, hs2, hmd, hd⟩, ho2⟩; have HO2 := Lib.hid (on_new HO1.out ho2); have HM := Lib.hid hm; have HS1 := Lib.hid (HS.out.later (on_new HO1.out ho2)); have HS2 := Lib.hid (hs2.later ho2); clear ho2 hm hs2))
  go_loopw [0, 1] (fun s t wr => ∃ (A B : Option Addr) (n c m d : Nat) (la lb : List R), s = .slice A n c ∧ t = .slice B m d ∧ n ≤ c ∧ c ≤ 9223372036854775807 ∧ m ≤ d ∧ d ≤ 9223372036854775807 ∧ Hid (n = la.length ∧ m = lb.length ∧ right la = true ∧ right lb = true ∧ (r = true ↔ Common la lb)) ∧ Hid (Rs wr A la ∧ Rs wr B lb) ∧ Only (w.heap.size ≤ ·) w wr) (fun s t _ => (match s with | .slice _ n _ => n | _ => 0) + (match t with | .slice _ n _ => n | _ => 0))
  case atStart => exact ⟨A, B, n, c, m, d, known a, known b, rfl, rfl, hnc, hc, hmd, hd, Lib.hid ⟨HN.out, HM.out, known_right a, known_right b, HRR.out⟩, Lib.hid ⟨HS1.out, HS2.out⟩, HO2.out⟩
  case round =>
    clear HK HK' HRR HO1 HO2 HN HM HS HS1 HS2 hnc hc hmd hd
    obtain ⟨A, B, n, c, m, d, la, lb, rfl, rfl, hnc, hc, hmd, hd, HX, HS, ho⟩ := hrel
    have HO := Lib.hid ho
    clear ho
    by_cases hn0 : 0 < n
    · by_cases hm0 : 0 < m
      · cases la with
        | nil => have := HX.out.1; simp at this; omega
        | cons x la =>
        cases lb with
        | nil => have := HX.out.2.1; simp at this; omega
        | cons y lb =>
        obtain ⟨g, off, x', rfl, hg, hx, hc1, hc2⟩ := HS.out.1.at_ (k := 0) (by simp)
        obtain ⟨g', off', y', rfl, hg', hy, hc1', hc2'⟩ := HS.out.2.at_ (k := 0) (by simp)
        simp only [List.getElem?_cons_zero, Option.some.injEq] at hx hy
        subst hx hy
        have hmx := (may_iff x).1 (right_cons.1 HX.out.2.2.1).1
        have hmy := (may_iff y).1 (right_cons.1 HX.out.2.2.2.1).1
        obtain ⟨x1, x2⟩ := x
        obtain ⟨y1, y2⟩ := y
        simp only [Nat.zero_mul, Nat.add_zero] at hmx hmy hc1 hc2 hc1' hc2'
        have hn' : (0 : Int) < (n : Int) := by omega
        have hm' : (0 : Int) < (m : Int) := by omega
        have HE : Hid (∀ W : World, Calls Tryz.prog 52 #[.agg #[.int .i64 x1, .int .i64 x2]] W fun e w' => e = .returned (.int .i64 (x1 + x2)) ∧ Only (W.heap.size ≤ ·) W w') := fun W => end_c W x1 x2 (by omega) (by omega)
        have HE' : Hid (∀ W : World, Calls Tryz.prog 52 #[.agg #[.int .i64 y1, .int .i64 y2]] W fun e w' => e = .returned (.int .i64 (y1 + y2)) ∧ Only (W.heap.size ≤ ·) W w') := fun W => end_c W y1 y2 (by omega) (by omega)
        have HKEEP : Hid (∀ W : World, Only (wr.heap.size ≤ ·) wr W → W.cell? ⟨g, off, none⟩ = some (.int .i64 x1) ∧ W.cell? ⟨g, off + 1, none⟩ = some (.int .i64 x2) ∧ W.cell? ⟨g', off', none⟩ = some (.int .i64 y1) ∧ W.cell? ⟨g', off' + 1, none⟩ = some (.int .i64 y2)) := fun W hW => ⟨(hW.cell (p := ⟨g, off, none⟩) (Nat.not_le.2 hg)).trans hc1, (hW.cell (p := ⟨g, off + 1, none⟩) (Nat.not_le.2 hg)).trans hc2, (hW.cell (p := ⟨g', off', none⟩) (Nat.not_le.2 hg')).trans hc1', (hW.cell (p := ⟨g', off' + 1, none⟩) (Nat.not_le.2 hg')).trans hc2'⟩
        clear hc1 hc2 hc1' hc2'
        go_wp2_with (fail)
        go_region_held3 (fun w' => Only (wr.heap.size ≤ ·) wr w' ∧ w'.cell? ⟨g, off, none⟩ = some (.int .i64 x1) ∧ w'.cell? ⟨g, off + 1, none⟩ = some (.int .i64 x2) ∧ w'.cell? ⟨g', off', none⟩ = some (.int .i64 y1) ∧ w'.cell? ⟨g', off' + 1, none⟩ = some (.int .i64 y2)) (first | assumption | exact ⟨(Only.refl _ wr).drew, HKEEP.out _ (Only.refl _ wr).drew⟩ | exact ⟨hO3, HKEEP.out _ hO3⟩) (first | (go_at_call 52; (with_reducible refine (HE.out _).mono ?_); rintro e w3 ⟨rfl, ho3⟩; have hO3 : Only (wr.heap.size ≤ ·) wr w3 := Only.trans (And.left (by assumption)) (ho3.mono fun k h => Nat.le_trans (Only.size (And.left (by assumption))) h)))
        all_goals
          have HO4 : Hid (Only (wr.heap.size ≤ ·) wr w3) := And.left (by assumption)
          clear hO3 ho3
          have hkeep := HKEEP.out _ HO4.out
          by_cases hlt : x1 + x2 ≤ y1
          · have HN : Hid (r = true ↔ Common la ((y1, y2) :: lb)) := (HX.out.2.2.2.2).trans (common_left HX.out.2.2.1 HX.out.2.2.2.1 hlt)
            have HR1 := Lib.hid (Rs.tail (HS.out.1.later HO4.out))
            have HR2 := Lib.hid (HS.out.2.later HO4.out)
            have hla : n - 1 = la.length := by have := HX.out.1; simp at this; omega
            have HLA := Lib.hid hla
            clear hla
            by_cases hc1 : c = 1
            · subst hc1
              obtain rfl : n = 1 := by omega
              obtain rfl : la = [] := List.eq_nil_of_length_eq_zero HLA.out.symm
              go_wp2
              refine ⟨⟨_, _, _, _, _, _, [], (y1, y2) :: lb, rfl, rfl, ?_, ?_, hmd, hd, Lib.hid ⟨rfl, HX.out.2.1, rfl, HX.out.2.2.2.1, HN.out⟩, Lib.hid ⟨Rs.nil_ _ _, HR2.out⟩, on_new HO.out HO4.out⟩, ?_⟩
              all_goals (first | omega | simp)
            · go_wp2
              refine ⟨⟨_, _, _, _, _, _, la, (y1, y2) :: lb, rfl, rfl, ?_, ?_, hmd, hd, Lib.hid ⟨HLA.out, HX.out.2.1, right_tail HX.out.2.2.1, HX.out.2.2.2.1, HN.out⟩, Lib.hid ⟨HR1.out, HR2.out⟩, on_new HO.out HO4.out⟩, ?_⟩
              all_goals (first | omega | (simp; omega))
          · have HKEEP2 : Hid (∀ W : World, Only (w3.heap.size ≤ ·) w3 W → W.cell? ⟨g, off, none⟩ = some (.int .i64 x1) ∧ W.cell? ⟨g, off + 1, none⟩ = some (.int .i64 x2) ∧ W.cell? ⟨g', off', none⟩ = some (.int .i64 y1) ∧ W.cell? ⟨g', off' + 1, none⟩ = some (.int .i64 y2)) := fun W hW => HKEEP.out W (on_new HO4.out hW)
            clear hkeep
            go_wp2_with (fail)
            go_region_held3 (fun w' => Only (w3.heap.size ≤ ·) w3 w' ∧ w'.cell? ⟨g, off, none⟩ = some (.int .i64 x1) ∧ w'.cell? ⟨g, off + 1, none⟩ = some (.int .i64 x2) ∧ w'.cell? ⟨g', off', none⟩ = some (.int .i64 y1) ∧ w'.cell? ⟨g', off' + 1, none⟩ = some (.int .i64 y2)) (first | assumption | exact ⟨(Only.refl _ w3).drew, HKEEP2.out _ (Only.refl _ w3).drew⟩ | exact ⟨hO5, HKEEP2.out _ hO5⟩) (first | (go_at_call 52; (with_reducible refine (HE'.out _).mono ?_); rintro e w5 ⟨rfl, ho5⟩; have hO5 : Only (w3.heap.size ≤ ·) w3 w5 := Only.trans (And.left (by assumption)) (ho5.mono fun k h => Nat.le_trans (Only.size (And.left (by assumption))) h)))
            all_goals
              have HO5 : Hid (Only (wr.heap.size ≤ ·) wr w5) := on_new HO4.out (And.left (by assumption))
              clear hO5 ho5
              have hkeep := HKEEP.out _ HO5.out
              by_cases hlt' : y1 + y2 ≤ x1
              · have HN : Hid (r = true ↔ Common ((x1, x2) :: la) lb) := (HX.out.2.2.2.2).trans ((common_comm _ _).trans ((common_left HX.out.2.2.2.1 HX.out.2.2.1 hlt').trans (common_comm _ _)))
                have HR1 := Lib.hid (Rs.tail (HS.out.2.later HO5.out))
                have HR2 := Lib.hid (HS.out.1.later HO5.out)
                have hlb : m - 1 = lb.length := by have := HX.out.2.1; simp at this; omega
                have HLB := Lib.hid hlb
                clear hlb
                by_cases hc1 : d = 1
                · subst hc1
                  obtain rfl : m = 1 := by omega
                  obtain rfl : lb = [] := List.eq_nil_of_length_eq_zero HLB.out.symm
                  go_wp2
                  refine ⟨⟨_, _, _, _, _, _, (x1, x2) :: la, [], rfl, rfl, hnc, hc, ?_, ?_, Lib.hid ⟨HX.out.1, rfl, HX.out.2.2.1, rfl, HN.out⟩, Lib.hid ⟨HR2.out, Rs.nil_ _ _⟩, on_new HO.out HO5.out⟩, ?_⟩
                  all_goals (first | omega | simp)
                · go_wp2
                  refine ⟨⟨_, _, _, _, _, _, (x1, x2) :: la, lb, rfl, rfl, hnc, hc, ?_, ?_, Lib.hid ⟨HX.out.1, HLB.out, HX.out.2.2.1, right_tail HX.out.2.2.2.1, HN.out⟩, Lib.hid ⟨HR2.out, HR1.out⟩, on_new HO.out HO5.out⟩, ?_⟩
                  all_goals (first | omega | (simp; omega))
              · obtain rfl : r = true := HX.out.2.2.2.2.2 (common_meet HX.out.2.2.1 HX.out.2.2.2.1 (by simp only; omega) (by simp only; omega))
                go_wp2
                go_ret
                exact ⟨rfl, on_new HO.out HO5.out⟩
      · obtain rfl : m = 0 := by omega
        obtain rfl : lb = [] := List.eq_nil_of_length_eq_zero HX.out.2.1.symm
        obtain rfl : r = false := by
          rw [← Bool.not_eq_true, HX.out.2.2.2.2]
          rintro ⟨p, _, h⟩
          simp [inn] at h
        have hn' : (0 : Int) < (n : Int) := by omega
        go_wp2
        go_ret
        exact ⟨rfl, HO.out⟩
    · obtain rfl : n = 0 := by omega
      obtain rfl : la = [] := List.eq_nil_of_length_eq_zero HX.out.1.symm
      obtain rfl : r = false := by
        rw [← Bool.not_eq_true, HX.out.2.2.2.2]
        rintro ⟨p, h, _⟩
        simp [inn] at h
      go_wp2
      go_ret
      exact ⟨rfl, HO.out⟩
theorem blk_row {w : World} {g : Nat} {t : TypeId} {l : List R} (h : Blk w g t (rc l)) (hl : l.length ≤ 1000000) : Row w (.slice (some ⟨g, 0, none⟩) l.length l.length) l := ⟨_, _, rfl, Rs.blk (rest := []) (by simpa using h), (fun e => by cases e), Nat.le_refl _, by omega⟩
end Go.Proofs.YtmadlckladohbaaGreat
