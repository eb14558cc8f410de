/-
  The document's New: the loops.
-/
import Derived.Test.YtmadlckladohbaaGreatHb
set_option linter.unusedVariables false
namespace Go.Proofs.YtmadlckladohbaaGreat
open Go.RowKit Go.Shelf

theorem iown_far {w : World} {B n : Nat} {v : Value} {xs : List Value} {p : Addr} (h : w.ownsRow B 3 1 v n xs) (hp : p.block < B) (u : Value) : (w.setCell p u).ownsRow B 3 1 v n xs :=
  World.ownsRow.kept h (row := some p.block) ⟨rfl, rfl, rfl, by simp [World.setCell], fun k _ hk => Below.heap_setCell w p u k (fun e => hk (by rw [e]))⟩ (.inr fun e => by have := (World.ownsRow.lt h _ e).1; omega)
/-- What New has marked behind so many turns. -/
def stN (a b : List R) (t : Int) (p : Nat) : Nat → List Int
  | 0 => List.replicate p (-2)
  | 1 => setL (List.replicate p (-2)) (-1) (pagesOf a)
  | _ => whoN a b t p
theorem stN_length (a b : List R) (t : Int) (p : Nat) : ∀ k, (stN a b t p k).length = p
  | 0 => by simp [stN]
  | 1 => by simp [stN, setL_length]
  | k + 2 => by simp [stN, whoN, setL_length]
theorem pages_row {w6 : World} {v : Value} {B : Nat} {l : List Int} {g : Nat} (h : w6.ownsRow B 3 1 v l.length (ic l)) (hg : g < B) : ∃ A c Bz n, n = l.length ∧ v = .slice A n c ∧ g < Bz ∧ w6.ownsRow Bz 3 1 (.slice A n c) n (ic l) := by
  obtain ⟨A, c, rfl⟩ := own_form h
  exact ⟨A, c, B, l.length, rfl, rfl, hg, h⟩
/-- The document's pool, or none. -/
def NewDoc (w : World) (a b : List R) (t p lim : Int) (e : Ending) (w' : World) : Prop :=
  ((∃ v who, e = .returned (.tuple #[.agg #[v, .int .i64 lim], .bool true]) ∧ Wh w' v who ∧ NewOk a b t p lim ∧ WhoS (NewS a b t p lim) who) ∨ (e = .returned (.tuple #[.agg #[.slice none 0 0, .int .i64 0], .bool false]) ∧ ¬ NewOk a b t p lim)) ∧ Only (w.heap.size ≤ ·) w w'

set_option maxRecDepth 100000 in
set_option maxHeartbeats 12800000 in
theorem rnew_main (w : World) (A B : Option Addr) (nn cc mm dd : Nat) (a b : List R) (t lim : Int) (p : Nat) (ha : Row w (.slice A nn cc) a) (hb : Row w (.slice B mm dd) b) (hai : ∀ x ∈ a, I64 x) (hbi : ∀ x ∈ b, I64 x) (hr : RightS a b) (h2 : 2 ≤ p) (hpl : (p : Int) ≤ lim) (hlim : lim ≤ 16384) (ht : 0 ≤ t) :
    Calls Tryz.prog 8 #[.agg #[.slice A nn cc, .slice B mm dd], .int .i64 t, .int .i64 p, .int .i64 lim] w (NewDoc w a b t p lim) := by
  have HR := Lib.hid hr
  have HRT : Hid (∀ W, Only (w.heap.size ≤ ·) w W → Calls Tryz.prog 28 #[.agg #[.slice A nn cc, .slice B mm dd]] W (Told W (.bool true))) := Lib.hid fun W hW => (r10Right_c W A B nn cc mm dd a b (ha.later hW) (hb.later hW) hai hbi).mono fun e w' ⟨⟨r, r1, r2⟩, r3⟩ => ⟨by rw [r1, r2.2 HR.out], r3⟩
  have HPA : Hid (∀ W, Only (w.heap.size ≤ ·) w W → Calls Tryz.prog 29 #[.slice A nn cc] W (MakesI W (pagesOf a))) := Lib.hid fun W hW => r10Pages_c W _ a (ha.later hW) HR.out.1.1
  have HPB : Hid (∀ W, Only (w.heap.size ≤ ·) w W → Calls Tryz.prog 29 #[.slice B mm dd] W (MakesI W (pagesOf b))) := Lib.hid fun W hW => r10Pages_c W _ b (hb.later hW) HR.out.2.1.1
  obtain ⟨i0, hi0, hz0, hz1, hz2⟩ := info_parts infoI
  have HI := Lib.hid (And.intro hi0 (And.intro hz0 (And.intro hz1 hz2)))
  obtain ⟨w2, hw2⟩ : ∃ w2, w2 = (w.alloc (.cells #[.slice A nn cc, .slice B mm dd] 24)).alloc (.cells #[.slice none 0 0, .int .i64 0] 39) := ⟨_, rfl⟩
  obtain ⟨b1, hb1⟩ : ∃ b1, b1 = w.heap.size := ⟨_, rfl⟩
  obtain ⟨b2, hb2⟩ : ∃ b2, b2 = w.heap.size + 1 := ⟨_, rfl⟩
  have HB1 : Hid (Blk w2 b1 24 [.slice A nn cc, .slice B mm dd]) := Lib.hid (by rw [hw2, hb1]; exact (Blk.new w _ [.slice A nn cc, .slice B mm dd]).alloc _)
  have HB2 : Hid (Blk w2 b2 39 [.slice none 0 0, .int .i64 0]) := Lib.hid (by
    rw [hw2, hb2]
    have := Blk.new (w.alloc (.cells #[.slice A nn cc, .slice B mm dd] 24)) 39 [.slice none 0 0, .int .i64 0]
    rwa [show (w.alloc (.cells #[.slice A nn cc, .slice B mm dd] 24)).heap.size = w.heap.size + 1 by simp] at this)
  have HO : Hid (Only (w.heap.size ≤ ·) w w2) := Lib.hid (by rw [hw2]; exact ((Only.refl _ w).alloc (fun _ h => h) _).alloc (fun _ h => h) _)
  have HBN : Hid (w.heap.size ≤ b1 ∧ w.heap.size ≤ b2 ∧ b1 ≠ b2) := Lib.hid (by omega)
  have HEQ : Hid (w2 = (w.alloc (.cells #[.slice A nn cc, .slice B mm dd] 24)).alloc (.cells #[.slice none 0 0, .int .i64 0] 39) ∧ b1 = w.heap.size ∧ b2 = w.heap.size + 1) := Lib.hid ⟨hw2, hb1, hb2⟩
  have HTT := Lib.hid ht
  have d0 : ¬ (p : Int) < 2 := by omega
  have d1 : ¬ lim < (p : Int) := by omega
  have d2 : ¬ 16384 < lim := by omega
  have d3 : ¬ t < 0 := by omega
  clear ha hb hai hbi hw2 hb1 hb2 hr ht hi0 hz0 hz1 hz2
  go_enter Tryz.func8, Tryz.ntmps8
  go_upto_region 1 with (fail)
  rw [← HEQ.out.1, ← HEQ.out.2.2, ← HEQ.out.2.1]
  obtain ⟨q0, q1⟩ := box_two HB1.out
  go_upto_region 3 with (go_at_call 28; (with_reducible refine (HRT.out _ HO.out).mono ?_); rintro e w3 ⟨rfl, ho⟩; have HB13 := Lib.hid (HB1.out.later ho); have HB23 := Lib.hid (HB2.out.later ho); have HO3 := Lib.hid (on_new HO.out ho); clear ho)
  obtain ⟨b3, hb3⟩ : ∃ b3, b3 = w3.heap.size := ⟨_, rfl⟩
  obtain ⟨w4, hw4⟩ : ∃ w4, w4 = w3.alloc (.cells #[.slice none 0 0, .int .i64 lim] 39) := ⟨_, rfl⟩
  have HN4 : Hid (Only (w3.heap.size ≤ ·) w3 w4) := Lib.hid (by rw [hw4]; exact (Only.refl _ w3).alloc (fun _ h => h) _)
  have HB3 : Hid (Blk w4 b3 39 [.slice none 0 0, .int .i64 lim]) := Lib.hid (by rw [hw4, hb3]; exact Blk.new w3 _ [.slice none 0 0, .int .i64 lim])
  have HB14 := Lib.hid (HB13.out.later HN4.out)
  have HB24 := Lib.hid (HB23.out.later HN4.out)
  have HO4 := Lib.hid (on_new HO3.out HN4.out)
  have HB3N : Hid (b1 < b3 ∧ b2 < b3 ∧ w.heap.size ≤ b3) := Lib.hid (by have h1 := HB13.out.lt; have h2 := HB23.out.lt; have h3 := HO3.out.size; omega)
  have HEQ4 : Hid (w4 = w3.alloc (.cells #[.slice none 0 0, .int .i64 lim] 39) ∧ b3 = w3.heap.size) := Lib.hid ⟨hw4, hb3⟩
  clear hw4 hb3 q0 q1 d0 d1 d2 d3
  go_upto_region 4 with (fail)
  rw [← HEQ4.out.1, ← HEQ4.out.2]
  go_wp2_with (fail)
  go_loopg [11] p (fun gk0 i wr => ∃ (k : Nat) (A5 : Option Addr) (c5 : Nat), gk0 = p - k ∧ k ≤ p ∧ i = .int .i64 (k : Int) ∧ Hid (wr.ownsRow (b3 + 1) 3 1 (.slice A5 k c5) k (ic (List.replicate k (-2)))) ∧ Hid (Blk wr b1 24 [.slice A nn cc, .slice B mm dd]) ∧ Hid (Blk wr b2 39 [.slice none 0 0, .int .i64 0]) ∧ Hid (Blk wr b3 39 [.slice A5 k c5, .int .i64 lim]) ∧ Hid (Only (w.heap.size ≤ ·) w wr))
  case atStart => exact ⟨0, none, 0, rfl, Nat.zero_le _, rfl, Lib.hid (World.ownsRow_nil _ _ _ _), HB14, HB24, HB3, HO4⟩
  case round =>
    obtain ⟨k, A5, c5, rfl, hk, rfl, HW, HB1, HB2, HB3, HO⟩ := hrel
    obtain ⟨q0, q1⟩ := box_two HB3.out
    by_cases hlt : k < p
    · have hlt' : (k : Int) < (p : Int) := by omega
      have HBL : Hid (Blk (wr.alloc (.cells #[.int .i64 (-2)] 3)) wr.heap.size 3 [.int .i64 (-2)]) := Blk.new wr _ _
      have HSN : Hid (ic (List.replicate (k + 1) (-2)) = ic (List.replicate k (-2)) ++ ic [-2]) := Lib.hid (by rw [List.replicate_succ', ic_append])
      go_wp2_with (at_builtin; refine wpList_append_own _ rfl (.tmp 45) (.tmp 46) 37 rfl (b3 + 1) 3 i0 z0 1 8 Tryz.underlying37 HI.out.1 HI.out.2.1 HI.out.2.2.1 HI.out.2.2.2 (by rfl) (by omega) _ k _ rfl (World.ownsRow.alloc HW.out _) ⟨wr.heap.size, 0, none⟩ 1 1 (ic [-2]) rfl rfl (fun j u hu => by rw [Addr.add_lit, HBL.out.cell, Nat.zero_add]; exact hu) (ic_one _) (by simp only [maxLen]; omega) (by omega) (by have h1 := HB3.out.lt; simp; omega) ?_; intro v5 w5 ho5 hg5 _; obtain ⟨g5, cap5, rfl⟩ := ownsRow_succ ho5; have HW5 : Hid (w5.ownsRow (b3 + 1) 3 1 (.slice (some ⟨g5, 0, none⟩) (k + 1) cap5) (k + 1) (ic (List.replicate (k + 1) (-2)))) := Lib.hid (by rw [HSN.out]; exact ho5); have HO5 := Lib.hid ((HO.out.alloc (fun _ h => h) (.cells #[.int .i64 (-2)] 3)).grown hg5 (fun _ h => h) (fun g hg => by have h1 := (World.ownsRow.lt HW.out g hg).1; have h2 := HB3N.out; omega)); have HB15 := Lib.hid ((HB1.out.alloc (.cells #[.int .i64 (-2)] 3)).grown hg5 (own_ne HW.out HB1.out (by decide))); have HB25 := Lib.hid ((HB2.out.alloc (.cells #[.int .i64 (-2)] 3)).grown hg5 (own_ne HW.out HB2.out (by decide))); have HB35 := Lib.hid ((HB3.out.alloc (.cells #[.int .i64 (-2)] 3)).grown hg5 (own_ne HW.out HB3.out (by decide))); have p0 := (box_two HB35.out).1; have f0 := HB35.out.frozen 0; clear ho5 hg5)
      have HKP : Hid ((w5.setCell ⟨b3, 0, none⟩ (.slice (some ⟨g5, 0, none⟩) (k + 1) cap5)).ownsRow (b3 + 1) 3 1 (.slice (some ⟨g5, 0, none⟩) (k + 1) cap5) (k + 1) (ic (List.replicate (k + 1) (-2)))) := Lib.hid (iown_far HW5.out (p := ⟨b3, 0, none⟩) (Nat.lt_succ_self _) _)
      go_roundg (p - (k + 1))
      case measure => omega
      case rel => exact ⟨k + 1, _, _, rfl, by omega, by go_num, HKP, Lib.hid (HB15.out.far (p := ⟨b3, 0, none⟩) (Nat.ne_of_lt HB3N.out.1) _), Lib.hid (HB25.out.far (p := ⟨b3, 0, none⟩) (Nat.ne_of_lt HB3N.out.2.1) _), Lib.hid (HB35.out.set_ 0 _), Lib.hid (HO5.out.setCell (p := ⟨b3, 0, none⟩) HB3N.out.2.2 _)⟩
    · obtain rfl : p = k := by omega
      have hkm : ¬ (p : Int) < (p : Int) := by omega
      obtain ⟨g5, cap5, e5, hg1, hg2⟩ := World.ownsRow.form HW.out (by omega)
      obtain ⟨rfl, rfl⟩ : A5 = some ⟨g5, 0, none⟩ ∧ c5 = cap5 := by simpa using e5
      clear e5 hg1 hg2 hkm q0 q1
      go_upto_region 9 with (fail)
      go_wp2_with (fail)
      go_loopg [12] 2 (fun gk1 i wr => ∃ (k g5 c5 : Nat), gk1 = 2 - k ∧ k ≤ 2 ∧ i = .int .i64 (k : Int) ∧ Hid (wr.ownsRow (b3 + 1) 3 1 (.slice (some ⟨g5, 0, none⟩) p c5) p (ic (stN a b t p k))) ∧ Hid ((1 ≤ k → ∀ q ∈ pagesOf a, q < (p : Int)) ∧ (2 ≤ k → ∀ q ∈ pagesOf b, q < (p : Int))) ∧ Hid (Blk wr b1 24 [.slice A nn cc, .slice B mm dd]) ∧ Hid (Blk wr b2 39 [.slice none 0 0, .int .i64 0]) ∧ Hid (Blk wr b3 39 [.slice (some ⟨g5, 0, none⟩) p c5, .int .i64 lim]) ∧ Hid (Only (w.heap.size ≤ ·) w wr))
      case atStart => exact ⟨0, g5, c5, rfl, Nat.zero_le _, rfl, HW, Lib.hid ⟨fun h => by omega, fun h => by omega⟩, HB1, HB2, HB3, HO⟩
      case round =>
        obtain ⟨k, g5, c5, rfl, hk, rfl, HW, HLA, HB1, HB2, HB3, HO⟩ := hrel
        obtain ⟨q0, q1⟩ := box_two HB1.out
        by_cases hk0 : k = 0
        · subst hk0
          go_wp2_with (go_at_call 29; (with_reducible refine (HPA.out _ HO.out).mono ?_); rintro e w6 ⟨v6, rfl, hv6, ho6⟩; obtain ⟨A6, c6, Bz, n6, hn6, rfl, hb6, hv6⟩ := pages_row hv6 (World.ownsRow.lt HW.out g5 rfl).2; have HN6 := Lib.hid hn6; have HG6 := Lib.hid hb6; have HP6 := Lib.hid hv6; replace HW := Lib.hid (own_later HW.out ho6); replace HB1 := Lib.hid (HB1.out.later ho6); replace HB2 := Lib.hid (HB2.out.later ho6); replace HB3 := Lib.hid (HB3.out.later ho6); replace HO := Lib.hid (on_new HO.out ho6); have q9 := box_two HB1.out; obtain ⟨q0, q1⟩ := q9; clear hn6 hb6 hv6 ho6)
          have hn6b : n6 ≤ 32768 := by
            have h1 := pages_length (HR.out.1.1)
            have h2 := (cnt_small (HR.out.1.1)).2
            rw [HN6.out]
            omega
          go_loopg [15] n6 (fun gk1 i wr => ∃ (j : Nat), gk1 = n6 - j ∧ j ≤ n6 ∧ i = .int .i64 (j : Int) ∧ Hid (wr.ownsRow (b3 + 1) 3 1 (.slice (some ⟨g5, 0, none⟩) p c5) p (ic (setL (stN a b t p 0) (-1) ((pagesOf a).take j)))) ∧ Hid (∀ q ∈ (pagesOf a).take j, q < (p : Int)) ∧ Hid (Blk wr b1 24 [.slice A nn cc, .slice B mm dd]) ∧ Hid (Blk wr b2 39 [.slice none 0 0, .int .i64 0]) ∧ Hid (Blk wr b3 39 [.slice (some ⟨g5, 0, none⟩) p c5, .int .i64 lim]) ∧ Hid (Only (fun k => k < Bz ∨ w6.heap.size ≤ k) w6 wr) ∧ Hid (Only (w.heap.size ≤ ·) w wr))
          case atStart => exact ⟨0, rfl, Nat.zero_le _, rfl, HW, Lib.hid (fun q hq => by simp at hq), HB1, HB2, HB3, Lib.hid (Only.refl _ _), HO⟩
          case round =>
            obtain ⟨j, rfl, hj, rfl, HW, HLT, HB1, HB2, HB3, HX, HO⟩ := hrel
            obtain ⟨q0, q1⟩ := box_two HB3.out
            obtain ⟨p0, p1⟩ := box_two HB2.out
            have f0 := HB2.out.frozen 0
            have f1 := HB2.out.frozen 1
            by_cases hjl : j < n6
            · have hjl' : (j : Int) < (n6 : Int) := by omega
              obtain ⟨b6, o6, c6', y, e6, hy, hcy⟩ := (own_wh HP6.out HN6.out HX.out).at_ (k := j) (by rw [← HN6.out]; exact hjl)
              rw [← HN6.out] at e6
              simp only [Value.slice.injEq, true_and, and_true] at e6
              obtain ⟨rfl, rfl⟩ := e6
              have hy0 : 0 ≤ y := pages_pos (HR.out.1.1) y (List.mem_of_getElem? hy)
              have HY := Lib.hid hy
              have HTK : Hid ((pagesOf a).take (j + 1) = (pagesOf a).take j ++ [y]) := Lib.hid (by rw [List.take_add_one, hy]; rfl)
              obtain ⟨y, rfl⟩ : ∃ k : Nat, y = k := ⟨y.toNat, by omega⟩
              clear hy hy0
              by_cases hyp : y < p
              · have hyp' : ¬ (p : Int) ≤ (y : Int) := by omega
                have hyp2 : (y : Int) < (p : Int) := by omega
                have HLEN : Hid ((setL (stN a b t p 0) (-1) ((pagesOf a).take j)).length = p) := Lib.hid (by rw [setL_length, stN_length])
                obtain ⟨z, hz⟩ : ∃ z, (setL (stN a b t p 0) (-1) ((pagesOf a).take j))[y]? = some z := ⟨_, List.getElem?_eq_getElem (by rw [HLEN.out]; exact hyp)⟩
                have hc5 : wr.cell? ⟨g5, y, none⟩ = some (.int .i64 z) := by rw [HW.out.cellAt _ (by omega), ic, List.getElem?_map, hz]; rfl
                have hf5 := HW.out.frozenAt y
                have HG5 : Hid (b3 < g5) := Lib.hid (World.ownsRow.lt HW.out g5 rfl).1
                clear hz
                go_wp2_with (fail)
                go_region
                go_wp2_with (fail)
                have HBX := HB3N.out
                go_roundg (n6 - (j + 1))
                case measure => omega
                case rel => exact ⟨j + 1, rfl, by omega, by go_num, Lib.hid (by have := iown_set HW.out.drew y (.int .i64 (-1)); rwa [ic_set, show (setL (stN a b t p 0) (-1) ((pagesOf a).take j)).set y (-1) = setL (stN a b t p 0) (-1) ((pagesOf a).take (j + 1)) by rw [HTK.out, setL_snoc, Int.toNat_natCast]] at this), Lib.hid (fun q hq => by
                  rw [HTK.out] at hq
                  rcases List.mem_append.1 hq with h | h
                  · exact HLT.out q h
                  · rw [List.mem_singleton] at h
                    omega), Lib.hid (HB1.out.drew.far (p := ⟨g5, y, none⟩) (by have := HG5.out; simp only; omega) _), Lib.hid (HB2.out.drew.far (p := ⟨g5, y, none⟩) (by have := HG5.out; simp only; omega) _), Lib.hid (HB3.out.drew.far (p := ⟨g5, y, none⟩) (by have := HG5.out; simp only; omega) _), Lib.hid (HX.out.drew.setCell (p := ⟨g5, y, none⟩) (.inl HG6.out) _), Lib.hid (HO.out.drew.setCell (p := ⟨g5, y, none⟩) (by have := HG5.out; simp only; omega) _)⟩
              · have hyp' : (p : Int) ≤ (y : Int) := by omega
                have hyp2 : ¬ (y : Int) < (p : Int) := by omega
                have HNK : Hid (¬ NewOk a b t p lim) := Lib.hid fun h => by
                  have := new_far h (q := (y : Int)) (.inl (List.mem_of_getElem? HY.out))
                  omega
                go_wp2_with (fail)
                have HF1 : Hid (Blk ((wr.setCell ⟨b2, 0, none⟩ (.slice none 0 0)).setCell ⟨b2, 1, none⟩ (.int .i64 0)) b2 39 [.slice none 0 0, .int .i64 0]) := Lib.hid ((HB2.out.set_ 0 _).set_ 1 _)
                have HF3 : Hid (Only (w.heap.size ≤ ·) w ((wr.setCell ⟨b2, 0, none⟩ (.slice none 0 0)).setCell ⟨b2, 1, none⟩ (.int .i64 0))) := Lib.hid ((HO.out.setCell (p := ⟨b2, 0, none⟩) HBN.out.2.1 _).setCell (p := ⟨b2, 1, none⟩) HBN.out.2.1 _)
                exact bodyPost_ret (v := .tuple #[.agg #[.slice none 0 0, .int .i64 0], .bool false]) (results_cell2 rfl rfl rfl (load_pool HF1.out)) rfl ⟨.inr ⟨rfl, HNK.out⟩, HF3.out⟩
            · obtain rfl : j = n6 := by omega
              have hjm : ¬ (j : Int) < (j : Int) := by omega
              have HFULL : Hid ((pagesOf a).take j = (pagesOf a)) := Lib.hid (by rw [HN6.out, List.take_length])
              go_wp2_with (fail)
              go_roundg (2 - 1)
              case measure => omega
              case rel => exact ⟨1, g5, c5, rfl, by omega, by go_num, Lib.hid (by have := HW.out; rwa [HFULL.out] at this), Lib.hid ⟨fun _ q hq => HLT.out q (by rw [HFULL.out]; exact hq), fun h => by omega⟩, HB1, HB2, HB3, HO⟩
        · by_cases hk1 : k = 1
          · subst hk1
            go_wp2_with (first
              | (go_at_call 29; (with_reducible refine (HPA.out _ HO.out).mono ?_); rintro e w6a ⟨v6, rfl, hv6, ho6⟩; obtain ⟨A6a, c6a, Bza, n6a, hn6, rfl, hb6, hv6⟩ := pages_row hv6 (World.ownsRow.lt HW.out g5 rfl).2; have HN6a := Lib.hid hn6; have HG6a := Lib.hid hb6; have HP6a := Lib.hid hv6; replace HW := Lib.hid (own_later HW.out ho6); replace HB1 := Lib.hid (HB1.out.later ho6); replace HB2 := Lib.hid (HB2.out.later ho6); replace HB3 := Lib.hid (HB3.out.later ho6); replace HO := Lib.hid (on_new HO.out ho6); have q9 := box_two HB1.out; obtain ⟨q0, q1⟩ := q9; clear hn6 hb6 hv6 ho6)
              | (go_at_call 29; (with_reducible refine (HPB.out _ HO.out).mono ?_); rintro e w6 ⟨v6, rfl, hv6, ho6⟩; obtain ⟨A6, c6, Bz, n6, hn6, rfl, hb6, hv6⟩ := pages_row hv6 (World.ownsRow.lt HW.out g5 rfl).2; have HN6 := Lib.hid hn6; have HG6 := Lib.hid hb6; have HP6 := Lib.hid hv6; replace HW := Lib.hid (own_later HW.out ho6); replace HB1 := Lib.hid (HB1.out.later ho6); replace HB2 := Lib.hid (HB2.out.later ho6); replace HB3 := Lib.hid (HB3.out.later ho6); replace HO := Lib.hid (on_new HO.out ho6); have q9 := box_two HB1.out; obtain ⟨q0, q1⟩ := q9; clear hn6 hb6 hv6 ho6))
            have hn6b : n6 ≤ 32768 := by
              have h1 := pages_length (HR.out.2.1.1)
              have h2 := (cnt_small (HR.out.2.1.1)).2
              rw [HN6.out]
              omega
            go_loopg [15] n6 (fun gk1 i wr => ∃ (j : Nat), gk1 = n6 - j ∧ j ≤ n6 ∧ i = .int .i64 (j : Int) ∧ Hid (wr.ownsRow (b3 + 1) 3 1 (.slice (some ⟨g5, 0, none⟩) p c5) p (ic (setL (stN a b t p 1) t ((pagesOf b).take j)))) ∧ Hid (∀ q ∈ (pagesOf b).take j, q < (p : Int)) ∧ Hid (Blk wr b1 24 [.slice A nn cc, .slice B mm dd]) ∧ Hid (Blk wr b2 39 [.slice none 0 0, .int .i64 0]) ∧ Hid (Blk wr b3 39 [.slice (some ⟨g5, 0, none⟩) p c5, .int .i64 lim]) ∧ Hid (Only (fun k => k < Bz ∨ w6.heap.size ≤ k) w6 wr) ∧ Hid (Only (w.heap.size ≤ ·) w wr))
            case atStart => exact ⟨0, rfl, Nat.zero_le _, rfl, HW, Lib.hid (fun q hq => by simp at hq), HB1, HB2, HB3, Lib.hid (Only.refl _ _), HO⟩
            case round =>
              obtain ⟨j, rfl, hj, rfl, HW, HLT, HB1, HB2, HB3, HX, HO⟩ := hrel
              obtain ⟨q0, q1⟩ := box_two HB3.out
              obtain ⟨p0, p1⟩ := box_two HB2.out
              have f0 := HB2.out.frozen 0
              have f1 := HB2.out.frozen 1
              by_cases hjl : j < n6
              · have hjl' : (j : Int) < (n6 : Int) := by omega
                obtain ⟨b6, o6, c6', y, e6, hy, hcy⟩ := (own_wh HP6.out HN6.out HX.out).at_ (k := j) (by rw [← HN6.out]; exact hjl)
                rw [← HN6.out] at e6
                simp only [Value.slice.injEq, true_and, and_true] at e6
                obtain ⟨rfl, rfl⟩ := e6
                have hy0 : 0 ≤ y := pages_pos (HR.out.2.1.1) y (List.mem_of_getElem? hy)
                have HY := Lib.hid hy
                have HTK : Hid ((pagesOf b).take (j + 1) = (pagesOf b).take j ++ [y]) := Lib.hid (by rw [List.take_add_one, hy]; rfl)
                obtain ⟨y, rfl⟩ : ∃ k : Nat, y = k := ⟨y.toNat, by omega⟩
                clear hy hy0
                by_cases hyp : y < p
                · have hyp' : ¬ (p : Int) ≤ (y : Int) := by omega
                  have hyp2 : (y : Int) < (p : Int) := by omega
                  have HLEN : Hid ((setL (stN a b t p 1) t ((pagesOf b).take j)).length = p) := Lib.hid (by rw [setL_length, stN_length])
                  obtain ⟨z, hz⟩ : ∃ z, (setL (stN a b t p 1) t ((pagesOf b).take j))[y]? = some z := ⟨_, List.getElem?_eq_getElem (by rw [HLEN.out]; exact hyp)⟩
                  have hc5 : wr.cell? ⟨g5, y, none⟩ = some (.int .i64 z) := by rw [HW.out.cellAt _ (by omega), ic, List.getElem?_map, hz]; rfl
                  have hf5 := HW.out.frozenAt y
                  have HG5 : Hid (b3 < g5) := Lib.hid (World.ownsRow.lt HW.out g5 rfl).1
                  clear hz
                  go_wp2_with (fail)
                  go_region
                  go_wp2_with (fail)
                  have HBX := HB3N.out
                  go_roundg (n6 - (j + 1))
                  case measure => omega
                  case rel => exact ⟨j + 1, rfl, by omega, by go_num, Lib.hid (by have := iown_set HW.out.drew y (.int .i64 t); rwa [ic_set, show (setL (stN a b t p 1) t ((pagesOf b).take j)).set y t = setL (stN a b t p 1) t ((pagesOf b).take (j + 1)) by rw [HTK.out, setL_snoc, Int.toNat_natCast]] at this), Lib.hid (fun q hq => by
                    rw [HTK.out] at hq
                    rcases List.mem_append.1 hq with h | h
                    · exact HLT.out q h
                    · rw [List.mem_singleton] at h
                      omega), Lib.hid (HB1.out.drew.far (p := ⟨g5, y, none⟩) (by have := HG5.out; simp only; omega) _), Lib.hid (HB2.out.drew.far (p := ⟨g5, y, none⟩) (by have := HG5.out; simp only; omega) _), Lib.hid (HB3.out.drew.far (p := ⟨g5, y, none⟩) (by have := HG5.out; simp only; omega) _), Lib.hid (HX.out.drew.setCell (p := ⟨g5, y, none⟩) (.inl HG6.out) _), Lib.hid (HO.out.drew.setCell (p := ⟨g5, y, none⟩) (by have := HG5.out; simp only; omega) _)⟩
                · have hyp' : (p : Int) ≤ (y : Int) := by omega
                  have hyp2 : ¬ (y : Int) < (p : Int) := by omega
                  have HNK : Hid (¬ NewOk a b t p lim) := Lib.hid fun h => by
                    have := new_far h (q := (y : Int)) (.inr (List.mem_of_getElem? HY.out))
                    omega
                  go_wp2_with (fail)
                  have HF1 : Hid (Blk ((wr.setCell ⟨b2, 0, none⟩ (.slice none 0 0)).setCell ⟨b2, 1, none⟩ (.int .i64 0)) b2 39 [.slice none 0 0, .int .i64 0]) := Lib.hid ((HB2.out.set_ 0 _).set_ 1 _)
                  have HF3 : Hid (Only (w.heap.size ≤ ·) w ((wr.setCell ⟨b2, 0, none⟩ (.slice none 0 0)).setCell ⟨b2, 1, none⟩ (.int .i64 0))) := Lib.hid ((HO.out.setCell (p := ⟨b2, 0, none⟩) HBN.out.2.1 _).setCell (p := ⟨b2, 1, none⟩) HBN.out.2.1 _)
                  exact bodyPost_ret (v := .tuple #[.agg #[.slice none 0 0, .int .i64 0], .bool false]) (results_cell2 rfl rfl rfl (load_pool HF1.out)) rfl ⟨.inr ⟨rfl, HNK.out⟩, HF3.out⟩
              · obtain rfl : j = n6 := by omega
                have hjm : ¬ (j : Int) < (j : Int) := by omega
                have HFULL : Hid ((pagesOf b).take j = (pagesOf b)) := Lib.hid (by rw [HN6.out, List.take_length])
                go_wp2_with (fail)
                go_roundg (2 - 2)
                case measure => omega
                case rel => exact ⟨2, g5, c5, rfl, by omega, by go_num, Lib.hid (by have := HW.out; rwa [HFULL.out] at this), Lib.hid ⟨fun _ => HLA.out.1 (Nat.le_refl _), fun _ q hq => HLT.out q (by rw [HFULL.out]; exact hq)⟩, HB1, HB2, HB3, HO⟩
          · obtain rfl : k = 2 := by omega
            have HNK := Lib.hid (new_near (a := a) (b := b) (t := t) (p := (p : Int)) (lim := lim) (by omega) hpl hlim HTT.out HR.out (HLA.out.1 (by omega)) (HLA.out.2 (Nat.le_refl _)))
            obtain ⟨r0, r1⟩ := box_two HB3.out
            obtain ⟨p0, p1⟩ := box_two HB2.out
            have f0 := HB2.out.frozen 0
            have f1 := HB2.out.frozen 1
            go_wp2_with (fail)
            have HF1 : Hid (Blk ((wr.setCell ⟨b2, 0, none⟩ (.slice (some ⟨g5, 0, none⟩) p c5)).setCell ⟨b2, 1, none⟩ (.int .i64 lim)) b2 39 [.slice (some ⟨g5, 0, none⟩) p c5, .int .i64 lim]) := Lib.hid ((HB2.out.set_ 0 _).set_ 1 _)
            have HF2 : Hid (Only (fun k => k < b3 + 1 ∨ wr.heap.size ≤ k) wr ((wr.setCell ⟨b2, 0, none⟩ (.slice (some ⟨g5, 0, none⟩) p c5)).setCell ⟨b2, 1, none⟩ (.int .i64 lim))) := Lib.hid (((Only.refl _ wr).setCell (p := ⟨b2, 0, none⟩) (.inl (Nat.lt_succ_of_lt HB3N.out.2.1)) _).setCell (p := ⟨b2, 1, none⟩) (.inl (Nat.lt_succ_of_lt HB3N.out.2.1)) _)
            have HF3 : Hid (Only (w.heap.size ≤ ·) w ((wr.setCell ⟨b2, 0, none⟩ (.slice (some ⟨g5, 0, none⟩) p c5)).setCell ⟨b2, 1, none⟩ (.int .i64 lim))) := Lib.hid ((HO.out.setCell (p := ⟨b2, 0, none⟩) HBN.out.2.1 _).setCell (p := ⟨b2, 1, none⟩) HBN.out.2.1 _)
            exact bodyPost_ret (v := .tuple #[.agg #[.slice (some ⟨g5, 0, none⟩) p c5, .int .i64 lim], .bool true]) (results_cell2 rfl rfl rfl (load_pool HF1.out)) rfl ⟨.inl ⟨_, _, rfl, own_wh HW.out (by rw [stN_length]) HF2.out, HNK.out, by have := who_new HNK.out; exact this⟩, HF3.out⟩
end Go.Proofs.YtmadlckladohbaaGreat
