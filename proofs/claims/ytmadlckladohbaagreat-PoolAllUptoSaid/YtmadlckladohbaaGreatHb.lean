/-
  Rgi Rtk Wjo Oldp Rpg Rsd Rmy Rri Nwp Rnw: as one text.
-/
import Derived.Test.YtmadlckladohbaaGreatHa
/-
  The document's pool: Give.
-/
set_option linter.unusedVariables false
namespace Go.Proofs.YtmadlckladohbaaGreat
open Go.RowKit Go.Shelf

/-- The document's pool comes back, with an error. -/
def GaveG (w : World) (lim : Int) (l : List Int) (y : Int) (e : Ending) (w' : World) : Prop := (∃ v, e = .returned (.tuple #[.agg #[v, .int .i64 lim], .int .i64 y]) ∧ Wh w' v l) ∧ Only (w.heap.size ≤ ·) w w'

theorem May_told (W : World) {x1 x2 : Int} {b : Bool} (h : may (x1, x2) = b) : Calls Tryz.prog 19 #[.agg #[.int .i64 x1, .int .i64 x2]] W (Told W (.bool b)) := by
  have := May_c W x1 x2
  rwa [h] at this
set_option maxRecDepth 100000 in
set_option maxHeartbeats 6400000 in
theorem rgive_arg (w : World) (v : Value) (lim t x1 x2 : Int) (l : List Int) (h : Wh w v l) (hl : l.length ≤ 16384) (h2 : 2 ≤ l.length) (hx : t < 0 ∨ may (x1, x2) = false ∨ x1 < 2 ∨ (l.length : Int) < x1 + x2) :
    Calls Tryz.prog 12 #[.agg #[v, .int .i64 lim], .int .i64 t, .agg #[.int .i64 x1, .int .i64 x2]] w (GaveG w lim l 1) := by
  obtain ⟨A, c, rfl, hA, hsrc⟩ := h
  have HV0 : Hid (Wh w (.slice A l.length c) l) := Lib.hid ⟨A, c, rfl, hA, hsrc⟩
  obtain ⟨n, hn⟩ : ∃ n, n = l.length := ⟨_, rfl⟩
  rw [← hn] at HV0 hl ⊢
  obtain ⟨w2, hw2⟩ : ∃ w2, w2 = ((w.alloc (.cells #[.slice A n c, .int .i64 lim] 39)).alloc (.cells #[.int .i64 x1, .int .i64 x2] 44)).alloc (.cells #[.slice none 0 0, .int .i64 0] 39) := ⟨_, rfl⟩
  obtain ⟨b1, hb1⟩ : ∃ b1, b1 = w.heap.size := ⟨_, rfl⟩
  obtain ⟨b2, hb2⟩ : ∃ b2, b2 = w.heap.size + 2 := ⟨_, rfl⟩
  obtain ⟨bq, hbq⟩ : ∃ bq, bq = w.heap.size + 1 := ⟨_, rfl⟩
  have HBQ : Hid (Blk w2 bq 44 [.int .i64 x1, .int .i64 x2]) := Lib.hid (by
    rw [hw2, hbq]
    have := (Blk.new (w.alloc (.cells #[.slice A n c, .int .i64 lim] 39)) 44 [.int .i64 x1, .int .i64 x2]).alloc (.cells #[.slice none 0 0, .int .i64 0] 39)
    rwa [show (w.alloc (.cells #[.slice A n c, .int .i64 lim] 39)).heap.size = w.heap.size + 1 by simp] at this)
  have HB1 : Hid (Blk w2 b1 39 [.slice A n c, .int .i64 lim]) := Lib.hid (by
    rw [hw2, hb1]
    exact ((Blk.new w _ [.slice A n c, .int .i64 lim]).alloc _).alloc _)
  have HB2 : Hid (Blk w2 b2 39 [.slice none 0 0, .int .i64 0]) := Lib.hid (by
    rw [hw2, hb2]
    have := Blk.new ((w.alloc (.cells #[.slice A n c, .int .i64 lim] 39)).alloc (.cells #[.int .i64 x1, .int .i64 x2] 44)) 39 [.slice none 0 0, .int .i64 0]
    rwa [show ((w.alloc (.cells #[.slice A n c, .int .i64 lim] 39)).alloc (.cells #[.int .i64 x1, .int .i64 x2] 44)).heap.size = w.heap.size + 2 by simp] at this)
  have ho2 : Only (w.heap.size ≤ ·) w w2 := by rw [hw2]; exact (((Only.refl _ w).alloc (fun _ h => h) _).alloc (fun _ h => h) _).alloc (fun _ h => h) _
  have HO := Lib.hid ho2
  have HV := Lib.hid (HV0.out.later ho2)
  have HBN : Hid (w.heap.size ≤ b1 ∧ w.heap.size ≤ b2 ∧ b1 ≠ b2) := Lib.hid (by omega)
  have HEQ : Hid (w2 = ((w.alloc (.cells #[.slice A n c, .int .i64 lim] 39)).alloc (.cells #[.int .i64 x1, .int .i64 x2] 44)).alloc (.cells #[.slice none 0 0, .int .i64 0] 39) ∧ b1 = w.heap.size ∧ b2 = w.heap.size + 2 ∧ bq = w.heap.size + 1) := Lib.hid ⟨hw2, hb1, hb2, hbq⟩
  have HN := Lib.hid hn
  clear hsrc hA hn hw2 hb1 hb2 ho2 hbq
  rw [← HN.out] at h2 hx
  have H2 : Hid (2 ≤ l.length ∨ l = []) := Lib.hid (.inl (by rw [← HN.out]; exact h2))
  by_cases d1 : t < 0
  · clear hx
    go_enter Tryz.func12, Tryz.ntmps12
    go_upto_region 1 with (fail)
    rw [← HEQ.out.1, ← HEQ.out.2.2.1, ← HEQ.out.2.2.2, ← HEQ.out.2.1]
    obtain ⟨q0, q1⟩ := box_two HB1.out
    obtain ⟨p0, p1⟩ := box_two HBQ.out
    obtain ⟨r0, r1⟩ := box_two HB2.out
    have g0 := HB2.out.frozen 0
    have g1 := HB2.out.frozen 1
    have HF1 : Hid (Blk ((w2.setCell ⟨b2, 0, none⟩ (.slice A n c)).setCell ⟨b2, 1, none⟩ (.int .i64 lim)) b2 39 [(.slice A n c), .int .i64 lim]) := Lib.hid ((HB2.out.set_ 0 _).set_ 1 _)
    have HF2 : Hid (Only (fun k => k = b2) w2 ((w2.setCell ⟨b2, 0, none⟩ (.slice A n c)).setCell ⟨b2, 1, none⟩ (.int .i64 lim))) := Lib.hid (((Only.refl (fun k => k = b2) w2).setCell (p := ⟨b2, 0, none⟩) rfl _).setCell (p := ⟨b2, 1, none⟩) rfl _)
    have HF3 : Hid (Only (w.heap.size ≤ ·) w ((w2.setCell ⟨b2, 0, none⟩ (.slice A n c)).setCell ⟨b2, 1, none⟩ (.int .i64 lim))) := Lib.hid ((HO.out.setCell (p := ⟨b2, 0, none⟩) HBN.out.2.1 _).setCell (p := ⟨b2, 1, none⟩) HBN.out.2.1 _)
    go_wp2_with (fail)
    exact bodyPost_ret (v := .tuple #[.agg #[.slice A n c, .int .i64 lim], .int .i64 1]) (results_cell2 rfl rfl rfl (load_pool HF1.out)) rfl ⟨⟨_, rfl, HV.out.off HB2.out (fun _ _ => by simp) HF2.out H2.out⟩, HF3.out⟩
  · cases hm : may (x1, x2)
    · have HMY : Hid (∀ W, Calls Tryz.prog 19 #[.agg #[.int .i64 x1, .int .i64 x2]] W (Told W (.bool false))) := Lib.hid fun W => May_told W hm
      clear hx hm
      go_enter Tryz.func12, Tryz.ntmps12
      go_upto_region 1 with (fail)
      rw [← HEQ.out.1, ← HEQ.out.2.2.1, ← HEQ.out.2.2.2, ← HEQ.out.2.1]
      obtain ⟨q0, q1⟩ := box_two HB1.out
      obtain ⟨p0, p1⟩ := box_two HBQ.out
      obtain ⟨r0, r1⟩ := box_two HB2.out
      have g0 := HB2.out.frozen 0
      have g1 := HB2.out.frozen 1
      go_wp2_with (go_at_call 19; (with_reducible refine (HMY.out w2).mono ?_); rintro e w5 ⟨rfl, ho5⟩; have HB15 := Lib.hid (HB1.out.later ho5); have HBQ5 := Lib.hid (HBQ.out.later ho5); have HB25 := Lib.hid (HB2.out.later ho5); have HV5 := Lib.hid (HV.out.later ho5); have HO5 := Lib.hid (on_new HO.out ho5); obtain ⟨q50, q51⟩ := box_two HB15.out; obtain ⟨p50, p51⟩ := box_two HBQ5.out; obtain ⟨r50, r51⟩ := box_two HB25.out; have g50 := HB25.out.frozen 0; have g51 := HB25.out.frozen 1; clear ho5)
      have HF1 : Hid (Blk ((w5.setCell ⟨b2, 0, none⟩ (.slice A n c)).setCell ⟨b2, 1, none⟩ (.int .i64 lim)) b2 39 [(.slice A n c), .int .i64 lim]) := Lib.hid ((HB25.out.set_ 0 _).set_ 1 _)
      have HF2 : Hid (Only (fun k => k = b2) w5 ((w5.setCell ⟨b2, 0, none⟩ (.slice A n c)).setCell ⟨b2, 1, none⟩ (.int .i64 lim))) := Lib.hid (((Only.refl (fun k => k = b2) w5).setCell (p := ⟨b2, 0, none⟩) rfl _).setCell (p := ⟨b2, 1, none⟩) rfl _)
      have HF3 : Hid (Only (w.heap.size ≤ ·) w ((w5.setCell ⟨b2, 0, none⟩ (.slice A n c)).setCell ⟨b2, 1, none⟩ (.int .i64 lim))) := Lib.hid ((HO5.out.setCell (p := ⟨b2, 0, none⟩) HBN.out.2.1 _).setCell (p := ⟨b2, 1, none⟩) HBN.out.2.1 _)
      exact bodyPost_ret (v := .tuple #[.agg #[.slice A n c, .int .i64 lim], .int .i64 1]) (results_cell2 rfl rfl rfl (load_pool HF1.out)) rfl ⟨⟨_, rfl, HV5.out.off HB25.out (fun _ _ => by simp) HF2.out H2.out⟩, HF3.out⟩
    · have HMY : Hid (∀ W, Calls Tryz.prog 19 #[.agg #[.int .i64 x1, .int .i64 x2]] W (Told W (.bool true))) := Lib.hid fun W => May_told W hm
      have hmi := (may_iff _).1 hm
      simp only at hmi
      have hx' : x1 < 2 ∨ (n : Int) < x1 + x2 := by
        rcases hx with h | h | h
        · exact absurd h d1
        · rw [hm] at h; cases h
        · exact h
      clear hx hm
      by_cases d3 : x1 < 2
      · clear hx'
        go_enter Tryz.func12, Tryz.ntmps12
        go_upto_region 1 with (fail)
        rw [← HEQ.out.1, ← HEQ.out.2.2.1, ← HEQ.out.2.2.2, ← HEQ.out.2.1]
        obtain ⟨q0, q1⟩ := box_two HB1.out
        obtain ⟨p0, p1⟩ := box_two HBQ.out
        obtain ⟨r0, r1⟩ := box_two HB2.out
        have g0 := HB2.out.frozen 0
        have g1 := HB2.out.frozen 1
        go_wp2_with (go_at_call 19; (with_reducible refine (HMY.out w2).mono ?_); rintro e w5 ⟨rfl, ho5⟩; have HB15 := Lib.hid (HB1.out.later ho5); have HBQ5 := Lib.hid (HBQ.out.later ho5); have HB25 := Lib.hid (HB2.out.later ho5); have HV5 := Lib.hid (HV.out.later ho5); have HO5 := Lib.hid (on_new HO.out ho5); obtain ⟨q50, q51⟩ := box_two HB15.out; obtain ⟨p50, p51⟩ := box_two HBQ5.out; obtain ⟨r50, r51⟩ := box_two HB25.out; have g50 := HB25.out.frozen 0; have g51 := HB25.out.frozen 1; clear ho5)
        have HF1 : Hid (Blk ((w5.setCell ⟨b2, 0, none⟩ (.slice A n c)).setCell ⟨b2, 1, none⟩ (.int .i64 lim)) b2 39 [(.slice A n c), .int .i64 lim]) := Lib.hid ((HB25.out.set_ 0 _).set_ 1 _)
        have HF2 : Hid (Only (fun k => k = b2) w5 ((w5.setCell ⟨b2, 0, none⟩ (.slice A n c)).setCell ⟨b2, 1, none⟩ (.int .i64 lim))) := Lib.hid (((Only.refl (fun k => k = b2) w5).setCell (p := ⟨b2, 0, none⟩) rfl _).setCell (p := ⟨b2, 1, none⟩) rfl _)
        have HF3 : Hid (Only (w.heap.size ≤ ·) w ((w5.setCell ⟨b2, 0, none⟩ (.slice A n c)).setCell ⟨b2, 1, none⟩ (.int .i64 lim))) := Lib.hid ((HO5.out.setCell (p := ⟨b2, 0, none⟩) HBN.out.2.1 _).setCell (p := ⟨b2, 1, none⟩) HBN.out.2.1 _)
        exact bodyPost_ret (v := .tuple #[.agg #[.slice A n c, .int .i64 lim], .int .i64 1]) (results_cell2 rfl rfl rfl (load_pool HF1.out)) rfl ⟨⟨_, rfl, HV5.out.off HB25.out (fun _ _ => by simp) HF2.out H2.out⟩, HF3.out⟩
      · have d4 : (n : Int) < x1 + x2 := hx'.resolve_left d3
        clear hx'
        go_enter Tryz.func12, Tryz.ntmps12
        go_upto_region 1 with (fail)
        rw [← HEQ.out.1, ← HEQ.out.2.2.1, ← HEQ.out.2.2.2, ← HEQ.out.2.1]
        obtain ⟨q0, q1⟩ := box_two HB1.out
        obtain ⟨p0, p1⟩ := box_two HBQ.out
        obtain ⟨r0, r1⟩ := box_two HB2.out
        have g0 := HB2.out.frozen 0
        have g1 := HB2.out.frozen 1
        go_wp2_with (go_at_call 19; (with_reducible refine (HMY.out w2).mono ?_); rintro e w5 ⟨rfl, ho5⟩; have HB15 := Lib.hid (HB1.out.later ho5); have HBQ5 := Lib.hid (HBQ.out.later ho5); have HB25 := Lib.hid (HB2.out.later ho5); have HV5 := Lib.hid (HV.out.later ho5); have HO5 := Lib.hid (on_new HO.out ho5); obtain ⟨q50, q51⟩ := box_two HB15.out; obtain ⟨p50, p51⟩ := box_two HBQ5.out; obtain ⟨r50, r51⟩ := box_two HB25.out; have g50 := HB25.out.frozen 0; have g51 := HB25.out.frozen 1; clear ho5)
        have HF1 : Hid (Blk ((w5.setCell ⟨b2, 0, none⟩ (.slice A n c)).setCell ⟨b2, 1, none⟩ (.int .i64 lim)) b2 39 [(.slice A n c), .int .i64 lim]) := Lib.hid ((HB25.out.set_ 0 _).set_ 1 _)
        have HF2 : Hid (Only (fun k => k = b2) w5 ((w5.setCell ⟨b2, 0, none⟩ (.slice A n c)).setCell ⟨b2, 1, none⟩ (.int .i64 lim))) := Lib.hid (((Only.refl (fun k => k = b2) w5).setCell (p := ⟨b2, 0, none⟩) rfl _).setCell (p := ⟨b2, 1, none⟩) rfl _)
        have HF3 : Hid (Only (w.heap.size ≤ ·) w ((w5.setCell ⟨b2, 0, none⟩ (.slice A n c)).setCell ⟨b2, 1, none⟩ (.int .i64 lim))) := Lib.hid ((HO5.out.setCell (p := ⟨b2, 0, none⟩) HBN.out.2.1 _).setCell (p := ⟨b2, 1, none⟩) HBN.out.2.1 _)
        exact bodyPost_ret (v := .tuple #[.agg #[.slice A n c, .int .i64 lim], .int .i64 1]) (results_cell2 rfl rfl rfl (load_pool HF1.out)) rfl ⟨⟨_, rfl, HV5.out.off HB25.out (fun _ _ => by simp) HF2.out H2.out⟩, HF3.out⟩

/-- What Give tells of a run that may be. -/
def GiveSays (w : World) (lim : Int) (l : List Int) (a m : Nat) (t : Int) (e : Ending) (w' : World) : Prop :=
  (∃ v l' y, e = .returned (.tuple #[.agg #[v, .int .i64 lim], .int .i64 y]) ∧ Wh w' v l' ∧ ((y = 0 ∧ (∀ j, a ≤ j → j < a + m → l[j]? = some (-2)) ∧ l' = setP l a m t) ∨ (y = 110 ∧ (∃ j x, a ≤ j ∧ j < a + m ∧ l[j]? = some x ∧ x ≠ -2) ∧ l' = l))) ∧ Only (w.heap.size ≤ ·) w w'

set_option maxRecDepth 100000 in
set_option maxHeartbeats 6400000 in
theorem rgive_c (w : World) (v : Value) (lim t : Int) (a m : Nat) (l : List Int) (h : Wh w v l) (hl : l.length ≤ 16384) (h2 : 2 ≤ l.length) (ht : 0 ≤ t) (ha : 2 ≤ a) (hm : 1 ≤ m) (ham : a + m ≤ l.length) :
    Calls Tryz.prog 12 #[.agg #[v, .int .i64 lim], .int .i64 t, .agg #[.int .i64 a, .int .i64 m]] w (GiveSays w lim l a m t) := by
  obtain ⟨A, c, rfl, hA, hsrc⟩ := h
  have HV0 : Hid (Wh w (.slice A l.length c) l) := Lib.hid ⟨A, c, rfl, hA, hsrc⟩
  obtain ⟨n, hn⟩ : ∃ n, n = l.length := ⟨_, rfl⟩
  rw [← hn] at HV0 hl ⊢
  obtain ⟨w2, hw2⟩ : ∃ w2, w2 = ((w.alloc (.cells #[.slice A n c, .int .i64 lim] 39)).alloc (.cells #[.int .i64 (a : Int), .int .i64 (m : Int)] 44)).alloc (.cells #[.slice none 0 0, .int .i64 0] 39) := ⟨_, rfl⟩
  obtain ⟨b1, hb1⟩ : ∃ b1, b1 = w.heap.size := ⟨_, rfl⟩
  obtain ⟨b2, hb2⟩ : ∃ b2, b2 = w.heap.size + 2 := ⟨_, rfl⟩
  obtain ⟨bq, hbq⟩ : ∃ bq, bq = w.heap.size + 1 := ⟨_, rfl⟩
  have HBQ : Hid (Blk w2 bq 44 [.int .i64 (a : Int), .int .i64 (m : Int)]) := Lib.hid (by
    rw [hw2, hbq]
    have := (Blk.new (w.alloc (.cells #[.slice A n c, .int .i64 lim] 39)) 44 [.int .i64 (a : Int), .int .i64 (m : Int)]).alloc (.cells #[.slice none 0 0, .int .i64 0] 39)
    rwa [show (w.alloc (.cells #[.slice A n c, .int .i64 lim] 39)).heap.size = w.heap.size + 1 by simp] at this)
  have HB1 : Hid (Blk w2 b1 39 [.slice A n c, .int .i64 lim]) := Lib.hid (by
    rw [hw2, hb1]
    exact ((Blk.new w _ [.slice A n c, .int .i64 lim]).alloc _).alloc _)
  have HB2 : Hid (Blk w2 b2 39 [.slice none 0 0, .int .i64 0]) := Lib.hid (by
    rw [hw2, hb2]
    have := Blk.new ((w.alloc (.cells #[.slice A n c, .int .i64 lim] 39)).alloc (.cells #[.int .i64 (a : Int), .int .i64 (m : Int)] 44)) 39 [.slice none 0 0, .int .i64 0]
    rwa [show ((w.alloc (.cells #[.slice A n c, .int .i64 lim] 39)).alloc (.cells #[.int .i64 (a : Int), .int .i64 (m : Int)] 44)).heap.size = w.heap.size + 2 by simp] at this)
  have ho2 : Only (w.heap.size ≤ ·) w w2 := by rw [hw2]; exact (((Only.refl _ w).alloc (fun _ h => h) _).alloc (fun _ h => h) _).alloc (fun _ h => h) _
  have HO := Lib.hid ho2
  have HV := Lib.hid (HV0.out.later ho2)
  have HBN : Hid (w.heap.size ≤ b1 ∧ w.heap.size ≤ b2 ∧ b1 ≠ b2) := Lib.hid (by omega)
  have HEQ : Hid (w2 = ((w.alloc (.cells #[.slice A n c, .int .i64 lim] 39)).alloc (.cells #[.int .i64 (a : Int), .int .i64 (m : Int)] 44)).alloc (.cells #[.slice none 0 0, .int .i64 0] 39) ∧ b1 = w.heap.size ∧ b2 = w.heap.size + 2 ∧ bq = w.heap.size + 1) := Lib.hid ⟨hw2, hb1, hb2, hbq⟩
  have HN := Lib.hid hn
  clear hsrc hA hn hw2 hb1 hb2 ho2 hbq
  rw [← HN.out] at h2 ham
  have H2 : Hid (2 ≤ l.length ∨ l = []) := Lib.hid (.inl (by rw [← HN.out]; exact h2))
  have d1 : ¬ t < 0 := by omega
  have d3 : ¬ (a : Int) < 2 := by omega
  have d4 : ¬ (n : Int) < (a : Int) + (m : Int) := by omega
  have HMY : Hid (∀ W, Calls Tryz.prog 19 #[.agg #[.int .i64 (a : Int), .int .i64 (m : Int)]] W (Told W (.bool true))) := Lib.hid fun W => May_told W ((may_iff ((a : Int), (m : Int))).2 (by simp only; omega))
  go_enter Tryz.func12, Tryz.ntmps12
  go_upto_region 1 with (fail)
  rw [← HEQ.out.1, ← HEQ.out.2.2.1, ← HEQ.out.2.2.2, ← HEQ.out.2.1]
  obtain ⟨q0, q1⟩ := box_two HB1.out
  obtain ⟨p0, p1⟩ := box_two HBQ.out
  obtain ⟨r0, r1⟩ := box_two HB2.out
  have g0 := HB2.out.frozen 0
  have g1 := HB2.out.frozen 1
  go_upto_region 4 with (go_at_call 19; (with_reducible refine (HMY.out w2).mono ?_); rintro e w5 ⟨rfl, ho5⟩; have HB15 := Lib.hid (HB1.out.later ho5); have HBQ5 := Lib.hid (HBQ.out.later ho5); have HB25 := Lib.hid (HB2.out.later ho5); have HV5 := Lib.hid (HV.out.later ho5); have HO5 := Lib.hid (on_new HO.out ho5); obtain ⟨q50, q51⟩ := box_two HB15.out; obtain ⟨p50, p51⟩ := box_two HBQ5.out; obtain ⟨r50, r51⟩ := box_two HB25.out; have g50 := HB25.out.frozen 0; have g51 := HB25.out.frozen 1; clear ho5)
  clear q0 q1 p0 p1 r0 r1 g0 g1 q50 q51 p50 p51 r50 r51 g50 g51
  clear d1 d3 d4
  go_loopg [8] m (fun gk0 i wr => ∃ q : Nat, gk0 = a + m - q ∧ a ≤ q ∧ q ≤ a + m ∧ i = .int .i64 (q : Int) ∧ Hid (∀ j, a ≤ j → j < q → l[j]? = some (-2)) ∧ Hid (Blk wr b1 39 [.slice A n c, .int .i64 lim]) ∧ Hid (Blk wr bq 44 [.int .i64 (a : Int), .int .i64 (m : Int)]) ∧ Hid (Blk wr b2 39 [.slice none 0 0, .int .i64 0]) ∧ Hid (Only (w.heap.size ≤ ·) w wr))
  case atStart => exact ⟨a, by omega, Nat.le_refl _, by omega, rfl, Lib.hid fun j h1 h2 => absurd h2 (by omega), HB15, HBQ5, HB25, HO5⟩
  case round =>
    obtain ⟨q, rfl, hq1, hq2, rfl, HU, HB1, HBQ, HB2, HO⟩ := hrel
    have HVR := Lib.hid (HV0.out.later HO.out)
    obtain ⟨q0, q1⟩ := box_two HB1.out
    obtain ⟨p0, p1⟩ := box_two HBQ.out
    obtain ⟨r0, r1⟩ := box_two HB2.out
    have g0 := HB2.out.frozen 0
    have g1 := HB2.out.frozen 1
    by_cases hlt : q < a + m
    · obtain ⟨gx, off, c6, x, e6, hx, hc⟩ := HVR.out.at_ (k := q) (by rw [← HN.out]; omega)
      have HX := Lib.hid hx
      simp only [Value.slice.injEq] at e6
      obtain ⟨rfl, e7, rfl⟩ := e6
      clear e7 hx
      have hlt' : (q : Int) < (a : Int) + (m : Int) := by omega
      have hqn : (q : Int) < (n : Int) := by omega
      by_cases dx : x = -2
      · have hb1 : (x == -2) = true := beq_iff_eq.2 dx
        have hb2 : (x != -2) = false := by simp [dx]
        have DX := Lib.hid dx
        clear dx
        go_wp2_with (fail)
        go_roundg (a + m - (q + 1))
        case measure => omega
        case rel => exact ⟨q + 1, rfl, by omega, by omega, by go_num, Lib.hid (fun j h1 h2 => by
          rcases Nat.lt_or_ge j q with h3 | h3
          · exact HU.out j h1 h3
          · obtain rfl : j = q := by omega
            rw [HX.out, DX.out]), HB1, HBQ, HB2, HO⟩
      · have hb1 : (x == -2) = false := beq_eq_false_iff_ne.2 dx
        have hb2 : (x != -2) = true := by simp [dx]
        have DX := Lib.hid dx
        clear dx
        have HF1 : Hid (Blk ((wr.setCell ⟨b2, 0, none⟩ (.slice (some ⟨gx, off, none⟩) n c)).setCell ⟨b2, 1, none⟩ (.int .i64 lim)) b2 39 [(.slice (some ⟨gx, off, none⟩) n c), .int .i64 lim]) := Lib.hid ((HB2.out.set_ 0 _).set_ 1 _)
        have HF2 : Hid (Only (fun k => k = b2) wr ((wr.setCell ⟨b2, 0, none⟩ (.slice (some ⟨gx, off, none⟩) n c)).setCell ⟨b2, 1, none⟩ (.int .i64 lim))) := Lib.hid (((Only.refl (fun k => k = b2) wr).setCell (p := ⟨b2, 0, none⟩) rfl _).setCell (p := ⟨b2, 1, none⟩) rfl _)
        have HF3 : Hid (Only (w.heap.size ≤ ·) w ((wr.setCell ⟨b2, 0, none⟩ (.slice (some ⟨gx, off, none⟩) n c)).setCell ⟨b2, 1, none⟩ (.int .i64 lim))) := Lib.hid ((HO.out.setCell (p := ⟨b2, 0, none⟩) HBN.out.2.1 _).setCell (p := ⟨b2, 1, none⟩) HBN.out.2.1 _)
        go_wp2_with (fail)
        exact bodyPost_ret (v := .tuple #[.agg #[.slice (some ⟨gx, off, none⟩) n c, .int .i64 lim], .int .i64 110]) (results_cell2 rfl rfl rfl (load_pool HF1.out)) rfl ⟨⟨_, _, _, rfl, HVR.out.off HB2.out (fun _ _ => by simp) HF2.out H2.out, .inr ⟨rfl, ⟨q, x, hq1, hlt, HX.out, DX.out⟩, rfl⟩⟩, HF3.out⟩
    · obtain rfl : q = a + m := by omega
      have hkm : ¬ (((a + m : Nat) : Int) < (a : Int) + (m : Int)) := by omega
      have hkm2 : ¬ ((a : Int) + (m : Int) < (a : Int) + (m : Int)) := by omega
      have HSE : Hid (Calls Tryz.prog 36 #[.agg #[.slice A n c, .int .i64 lim], .int .i64 (a : Int), .int .i64 (m : Int), .int .i64 t] wr (GaveP wr lim (setP l a m t))) := Lib.hid (rset_c wr _ lim t a m l HVR.out (by rw [← HN.out]; omega) (by omega) (by rw [← HN.out]; omega))
      have HL5 : Hid (2 ≤ (setP l a m t).length ∨ setP l a m t = []) := Lib.hid (.inl (by rw [setP_length _ _ (by rw [← HN.out]; omega), ← HN.out]; omega))
      go_wp2_with (go_at_call 36; (with_reducible refine HSE.out.mono ?_); rintro e w6 ⟨⟨v6, rfl, hv6⟩, ho6⟩; obtain ⟨A6, N6, c6, rfl⟩ := hv6.form; have HV6 := Lib.hid hv6; have HB26 := Lib.hid (HB2.out.later ho6); have HO6 := Lib.hid (on_new HO.out ho6); have r60 := (box_two HB26.out).1; have r61 := (box_two HB26.out).2; have g60 := HB26.out.frozen 0; have g61 := HB26.out.frozen 1; clear hv6 ho6)
      have HF1 : Hid (Blk ((w6.setCell ⟨b2, 0, none⟩ (.slice A6 N6 c6)).setCell ⟨b2, 1, none⟩ (.int .i64 lim)) b2 39 [(.slice A6 N6 c6), .int .i64 lim]) := Lib.hid ((HB26.out.set_ 0 _).set_ 1 _)
      have HF2 : Hid (Only (fun k => k = b2) w6 ((w6.setCell ⟨b2, 0, none⟩ (.slice A6 N6 c6)).setCell ⟨b2, 1, none⟩ (.int .i64 lim))) := Lib.hid (((Only.refl (fun k => k = b2) w6).setCell (p := ⟨b2, 0, none⟩) rfl _).setCell (p := ⟨b2, 1, none⟩) rfl _)
      have HF3 : Hid (Only (w.heap.size ≤ ·) w ((w6.setCell ⟨b2, 0, none⟩ (.slice A6 N6 c6)).setCell ⟨b2, 1, none⟩ (.int .i64 lim))) := Lib.hid ((HO6.out.setCell (p := ⟨b2, 0, none⟩) HBN.out.2.1 _).setCell (p := ⟨b2, 1, none⟩) HBN.out.2.1 _)
      exact bodyPost_ret (v := .tuple #[.agg #[.slice A6 N6 c6, .int .i64 lim], .int .i64 0]) (results_cell2 rfl rfl rfl (load_pool HF1.out)) rfl ⟨⟨_, _, _, rfl, HV6.out.off HB26.out (fun _ _ => by simp) HF2.out HL5.out, .inl ⟨rfl, HU.out, rfl⟩⟩, HF3.out⟩
end Go.Proofs.YtmadlckladohbaaGreat

/-
  The document's pool: Take.
-/
set_option linter.unusedVariables false
namespace Go.Proofs.YtmadlckladohbaaGreat
open Go.RowKit Go.Shelf

def FreeAt (l : List Int) (a j : Nat) : Prop := ∀ i, i < j → l[a + i]? = some (-1)
def StartAt (l : List Int) (a : Nat) : Prop := l[a]? = some (-1) ∧ (a = 0 ∨ l[a - 1]? ≠ some (-1))
def GoodAt (l : List Int) (m a : Nat) : Prop := StartAt l a ∧ FreeAt l a m
def TailAt (l : List Int) (a : Nat) : Prop := a ≤ l.length ∧ (∀ j, a ≤ j → j < l.length → l[j]? = some (-1)) ∧ (a = 0 ∨ l[a - 1]? ≠ some (-1))
/-- What the document's Take tells of a number from 1 on. -/
def TakeDoc (w : World) (lim : Int) (l : List Int) (m : Nat) (e : Ending) (w' : World) : Prop :=
  (∃ v l' x y, e = .returned (.tuple #[.agg #[v, .int .i64 lim], .int .i64 x, .int .i64 y]) ∧ Wh w' v l' ∧
    ((∃ a : Nat, GoodAt l m a ∧ (∀ a', a' < a → ¬ GoodAt l m a') ∧ a + m ≤ l.length ∧ x = a ∧ y = 0 ∧ l' = setP l a m (-2)) ∨
     ((∀ a', ¬ GoodAt l m a') ∧ ∃ a : Nat, TailAt l a ∧ (((lim < m ∨ lim < a + m) ∧ x = 0 ∧ y = 12 ∧ l' = l) ∨ (¬ (lim < m ∨ lim < a + m) ∧ x = a ∧ y = 0 ∧ l' = setP l a m (-2)))))) ∧ Only (w.heap.size ≤ ·) w w'
theorem FreeAt.succ {l : List Int} {a k : Nat} (h : FreeAt l a k) (hx : l[a + k]? = some (-1)) : FreeAt l a (k + 1) := fun i hi => by
  rcases Nat.lt_or_ge i k with h1 | h1
  · exact h i h1
  · obtain rfl : i = k := by omega
    exact hx

set_option maxRecDepth 100000 in
set_option maxHeartbeats 6400000 in
theorem rtake_arg (w : World) (v : Value) (lim m : Int) (l : List Int) (h : Wh w v l) (hl : l.length ≤ 16384) (h2 : 2 ≤ l.length) (h1 : m < 1) :
    Calls Tryz.prog 10 #[.agg #[v, .int .i64 lim], .int .i64 m] w (GaveT w lim l 0 1) := by
  obtain ⟨A, c, rfl, hA, hsrc⟩ := h
  have HV0 : Hid (Wh w (.slice A l.length c) l) := Lib.hid ⟨A, c, rfl, hA, hsrc⟩
  obtain ⟨n, hn⟩ : ∃ n, n = l.length := ⟨_, rfl⟩
  rw [← hn] at HV0 hl ⊢
  obtain ⟨w2, hw2⟩ : ∃ w2, w2 = (w.alloc (.cells #[.slice A n c, .int .i64 lim] 39)).alloc (.cells #[.slice none 0 0, .int .i64 0] 39) := ⟨_, rfl⟩
  obtain ⟨b1, hb1⟩ : ∃ b1, b1 = w.heap.size := ⟨_, rfl⟩
  obtain ⟨b2, hb2⟩ : ∃ b2, b2 = w.heap.size + 1 := ⟨_, rfl⟩
  have HB1 : Hid (Blk w2 b1 39 [.slice A n c, .int .i64 lim]) := Lib.hid (by
    rw [hw2, hb1]
    exact (Blk.new w _ [.slice A n c, .int .i64 lim]).alloc _)
  have HB2 : Hid (Blk w2 b2 39 [.slice none 0 0, .int .i64 0]) := Lib.hid (by
    rw [hw2, hb2]
    have := Blk.new (w.alloc (.cells #[.slice A n c, .int .i64 lim] 39)) 39 [.slice none 0 0, .int .i64 0]
    rwa [show (w.alloc (.cells #[.slice A n c, .int .i64 lim] 39)).heap.size = w.heap.size + 1 by simp] at this)
  have ho2 : Only (w.heap.size ≤ ·) w w2 := by rw [hw2]; exact ((Only.refl _ w).alloc (fun _ h => h) _).alloc (fun _ h => h) _
  have HO := Lib.hid ho2
  have HV := Lib.hid (HV0.out.later ho2)
  have HBN : Hid (w.heap.size ≤ b1 ∧ w.heap.size ≤ b2 ∧ b1 ≠ b2) := Lib.hid (by omega)
  have HEQ : Hid (w2 = (w.alloc (.cells #[.slice A n c, .int .i64 lim] 39)).alloc (.cells #[.slice none 0 0, .int .i64 0] 39) ∧ b1 = w.heap.size ∧ b2 = w.heap.size + 1) := Lib.hid ⟨hw2, hb1, hb2⟩
  have HN := Lib.hid hn
  clear hsrc hA hn hw2 hb1 hb2 ho2
  have H2 : Hid (2 ≤ l.length ∨ l = []) := Lib.hid (.inl h2)
  go_enter Tryz.func10, Tryz.ntmps10
  go_upto_region 1 with (fail)
  rw [← HEQ.out.1, ← HEQ.out.2.2, ← HEQ.out.2.1]
  obtain ⟨q0, q1⟩ := box_two HB1.out
  obtain ⟨r0, r1⟩ := box_two HB2.out
  have g0 := HB2.out.frozen 0
  have g1 := HB2.out.frozen 1
  have HF1 : Hid (Blk ((w2.setCell ⟨b2, 0, none⟩ (.slice A n c)).setCell ⟨b2, 1, none⟩ (.int .i64 lim)) b2 39 [(.slice A n c), .int .i64 lim]) := Lib.hid ((HB2.out.set_ 0 _).set_ 1 _)
  have HF2 : Hid (Only (fun k => k = b2) w2 ((w2.setCell ⟨b2, 0, none⟩ (.slice A n c)).setCell ⟨b2, 1, none⟩ (.int .i64 lim))) := Lib.hid (((Only.refl (fun k => k = b2) w2).setCell (p := ⟨b2, 0, none⟩) rfl _).setCell (p := ⟨b2, 1, none⟩) rfl _)
  have HF3 : Hid (Only (w.heap.size ≤ ·) w ((w2.setCell ⟨b2, 0, none⟩ (.slice A n c)).setCell ⟨b2, 1, none⟩ (.int .i64 lim))) := Lib.hid ((HO.out.setCell (p := ⟨b2, 0, none⟩) HBN.out.2.1 _).setCell (p := ⟨b2, 1, none⟩) HBN.out.2.1 _)
  go_wp2_with (fail)
  exact bodyPost_ret (v := .tuple #[.agg #[.slice A n c, .int .i64 lim], .int .i64 0, .int .i64 1]) (results_cell3 rfl rfl rfl rfl (load_pool HF1.out)) rfl ⟨⟨_, rfl, HV.out.off HB2.out (fun _ _ => by simp) HF2.out H2.out⟩, HF3.out⟩

set_option maxRecDepth 100000 in
set_option maxHeartbeats 12800000 in
theorem rtake_c (w : World) (v : Value) (lim : Int) (m : Nat) (l : List Int) (h : Wh w v l) (hl : l.length ≤ 16384) (h2 : 2 ≤ l.length) (hlim : lim ≤ 16384) (hm1 : 1 ≤ m) (hm2 : (m : Int) ≤ 9223372036854775807) :
    Calls Tryz.prog 10 #[.agg #[v, .int .i64 lim], .int .i64 m] w (TakeDoc w lim l m) := by
  obtain ⟨A, c, rfl, hA, hsrc⟩ := h
  have HV0 : Hid (Wh w (.slice A l.length c) l) := Lib.hid ⟨A, c, rfl, hA, hsrc⟩
  obtain ⟨n, hn⟩ : ∃ n, n = l.length := ⟨_, rfl⟩
  rw [← hn] at HV0 hl ⊢
  obtain ⟨w2, hw2⟩ : ∃ w2, w2 = (w.alloc (.cells #[.slice A n c, .int .i64 lim] 39)).alloc (.cells #[.slice none 0 0, .int .i64 0] 39) := ⟨_, rfl⟩
  obtain ⟨b1, hb1⟩ : ∃ b1, b1 = w.heap.size := ⟨_, rfl⟩
  obtain ⟨b2, hb2⟩ : ∃ b2, b2 = w.heap.size + 1 := ⟨_, rfl⟩
  have HB1 : Hid (Blk w2 b1 39 [.slice A n c, .int .i64 lim]) := Lib.hid (by
    rw [hw2, hb1]
    exact (Blk.new w _ [.slice A n c, .int .i64 lim]).alloc _)
  have HB2 : Hid (Blk w2 b2 39 [.slice none 0 0, .int .i64 0]) := Lib.hid (by
    rw [hw2, hb2]
    have := Blk.new (w.alloc (.cells #[.slice A n c, .int .i64 lim] 39)) 39 [.slice none 0 0, .int .i64 0]
    rwa [show (w.alloc (.cells #[.slice A n c, .int .i64 lim] 39)).heap.size = w.heap.size + 1 by simp] at this)
  have ho2 : Only (w.heap.size ≤ ·) w w2 := by rw [hw2]; exact ((Only.refl _ w).alloc (fun _ h => h) _).alloc (fun _ h => h) _
  have HO := Lib.hid ho2
  have HV := Lib.hid (HV0.out.later ho2)
  have HBN : Hid (w.heap.size ≤ b1 ∧ w.heap.size ≤ b2 ∧ b1 ≠ b2) := Lib.hid (by omega)
  have HEQ : Hid (w2 = (w.alloc (.cells #[.slice A n c, .int .i64 lim] 39)).alloc (.cells #[.slice none 0 0, .int .i64 0] 39) ∧ b1 = w.heap.size ∧ b2 = w.heap.size + 1) := Lib.hid ⟨hw2, hb1, hb2⟩
  have HN := Lib.hid hn
  clear hsrc hA hn hw2 hb1 hb2 ho2
  rw [← HN.out] at h2
  have H2 : Hid (2 ≤ l.length ∨ l = []) := Lib.hid (.inl (by rw [← HN.out]; exact h2))
  have HM := Lib.hid hm1
  have HH2 := Lib.hid h2
  have h1 : ¬ (m : Int) < 1 := by omega
  go_enter Tryz.func10, Tryz.ntmps10
  go_upto_region 1 with (fail)
  rw [← HEQ.out.1, ← HEQ.out.2.2, ← HEQ.out.2.1]
  go_wp2_with (fail)
  clear h1 h2
  go_loopg [7] n (fun gk0 i wr => ∃ q : Nat, gk0 = n - q ∧ q ≤ n ∧ i = .int .i64 (q : Int) ∧ Hid (∀ a', a' < q → ¬ GoodAt l m a') ∧ Hid (Blk wr b1 39 [.slice A n c, .int .i64 lim]) ∧ Hid (Blk wr b2 39 [.slice none 0 0, .int .i64 0]) ∧ Hid (Only (w.heap.size ≤ ·) w wr))
  case atStart => exact ⟨0, rfl, Nat.zero_le _, rfl, Lib.hid fun a' h => absurd h (by omega), HB1, HB2, HO⟩
  case round =>
    obtain ⟨q, rfl, hq, rfl, HG, HB1, HB2, HO⟩ := hrel
    have HVR := Lib.hid (HV0.out.later HO.out)
    obtain ⟨q0, q1⟩ := box_two HB1.out
    by_cases hlt : q < n
    · obtain ⟨gx, off, c6, x, e6, hx, hc⟩ := HVR.out.at_ (k := q) (by rw [← HN.out]; omega)
      have HX := Lib.hid hx
      simp only [Value.slice.injEq] at e6
      obtain ⟨rfl, e7, rfl⟩ := e6
      clear e7 hx
      have hlt' : (q : Int) < (n : Int) := by omega
      by_cases dx : x = -1
      · have hb1 : (x == -1) = true := beq_iff_eq.2 dx
        have DX : Hid (l[q]? = some (-1)) := Lib.hid (by rw [HX.out, dx])
        clear dx
        by_cases dz : q = 0
        · have hz1 : ((q : Int) == 0) = true := beq_iff_eq.2 (by omega)
          have HST : Hid (StartAt l q) := Lib.hid ⟨DX.out, .inl dz⟩
          clear dz
          go_wp2_with (fail)
          go_loopg [8] m (fun gk1 s wq => ∃ k : Nat, gk1 = m - k ∧ k ≤ m ∧ q + k ≤ n ∧ s = .int .i64 (k : Int) ∧ Hid (FreeAt l q k) ∧ Hid (Blk wq b1 39 [.slice (some ⟨gx, off, none⟩) n c, .int .i64 lim]) ∧ Hid (Blk wq b2 39 [.slice none 0 0, .int .i64 0]) ∧ Hid (Only (w.heap.size ≤ ·) w wq))
          case atStart => exact ⟨0, rfl, Nat.zero_le _, by omega, rfl, Lib.hid fun i h => absurd h (by omega), HB1, HB2, HO⟩
          case round =>
            obtain ⟨k, rfl, hk, hqk, rfl, HF, HB1, HB2, HO⟩ := hrel
            have HVR := Lib.hid (HV0.out.later HO.out)
            obtain ⟨q0, q1⟩ := box_two HB1.out
            by_cases e1 : q + k < n
            · have e1' : (q : Int) + (k : Int) < (n : Int) := by omega
              by_cases e2 : k < m
              · have e2' : (k : Int) < (m : Int) := by omega
                obtain ⟨gz, offz, cz, z, ez, hz, hcz⟩ := HVR.out.at_ (k := q + k) (by rw [← HN.out]; omega)
                have HZ := Lib.hid hz
                simp only [Value.slice.injEq, Option.some.injEq, Addr.mk.injEq, and_true, true_and] at ez
                obtain ⟨⟨rfl, rfl⟩, ez7, rfl⟩ := ez
                clear ez7 hz
                by_cases e3 : z = -1
                · have hb3 : (z == -1) = true := beq_iff_eq.2 e3
                  have E3 : Hid (l[q + k]? = some (-1)) := Lib.hid (by rw [HZ.out, e3])
                  clear e3
                  go_wp2_with (fail)
                  go_roundg (m - (k + 1))
                  case measure => omega
                  case rel => exact ⟨k + 1, rfl, by omega, by omega, by go_num, Lib.hid (HF.out.succ E3.out), HB1, HB2, HO⟩
                · have hb3 : (z == -1) = false := beq_eq_false_iff_ne.2 e3
                  have hkm : ((k : Int) == (m : Int)) = false := beq_eq_false_iff_ne.2 (by omega)
                  have HNG : Hid (¬ GoodAt l m q) := Lib.hid fun h => by have := h.2 k e2; rw [HZ.out] at this; exact e3 (by simpa using this)
                  clear e3
                  go_wp2_with (fail)
                  go_roundg (n - (q + 1))
                  case measure => omega
                  case rel => exact ⟨q + 1, rfl, by omega, by go_num, Lib.hid (fun a' h => by
                    rcases Nat.lt_or_ge a' q with h1 | h1
                    · exact HG.out a' h1
                    · obtain rfl : a' = q := by omega
                      exact HNG.out), HB1, HB2, HO⟩
              · obtain ⟨KE, hke⟩ : ∃ KE, KE = k := ⟨_, rfl⟩
                have e2' : ¬ (k : Int) < (m : Int) := by omega
                have hkm : ((k : Int) == (m : Int)) = true := beq_iff_eq.2 (by omega)
                have HKE : Hid (k = m) := Lib.hid (by omega)
                clear hke
                have HKM : Hid (FreeAt l q m) := Lib.hid (by rw [← HKE.out]; exact HF.out)
                have HQM : Hid (q + m ≤ l.length) := Lib.hid (by rw [← HN.out]; have := HKE.out; omega)
                have HSE : Hid (Calls Tryz.prog 36 #[.agg #[.slice (some ⟨gx, off, none⟩) n c, .int .i64 lim], .int .i64 (q : Int), .int .i64 (m : Int), .int .i64 (-2)] wr (GaveP wr lim (setP l q m (-2)))) := Lib.hid (rset_c wr _ lim (-2) q m l (HV0.out.later HO.out) (by rw [← HN.out]; omega) (by have := HQM.out; have := HN.out; omega) (by rw [← HN.out]; omega))
                have HL5 : Hid (2 ≤ (setP l q m (-2)).length ∨ setP l q m (-2) = []) := Lib.hid (.inl (by rw [setP_length _ _ (by rw [← HN.out]; omega), ← HN.out]; have := HH2.out; omega))
                go_wp2_with (go_at_call 36; (with_reducible refine HSE.out.mono ?_); rintro e w6 ⟨⟨v6, rfl, hv6⟩, ho6⟩; obtain ⟨A6, N6, c6, rfl⟩ := hv6.form; have HV6 := Lib.hid hv6; have HB26 := Lib.hid (HB2.out.later ho6); have HO6 := Lib.hid (on_new HO.out ho6); have r60 := (box_two HB26.out).1; have r61 := (box_two HB26.out).2; have g60 := HB26.out.frozen 0; have g61 := HB26.out.frozen 1; clear hv6 ho6)
                have HF1 : Hid (Blk ((w6.setCell ⟨b2, 0, none⟩ (.slice A6 N6 c6)).setCell ⟨b2, 1, none⟩ (.int .i64 lim)) b2 39 [(.slice A6 N6 c6), .int .i64 lim]) := Lib.hid ((HB26.out.set_ 0 _).set_ 1 _)
                have HF2 : Hid (Only (fun k => k = b2) w6 ((w6.setCell ⟨b2, 0, none⟩ (.slice A6 N6 c6)).setCell ⟨b2, 1, none⟩ (.int .i64 lim))) := Lib.hid (((Only.refl (fun k => k = b2) w6).setCell (p := ⟨b2, 0, none⟩) rfl _).setCell (p := ⟨b2, 1, none⟩) rfl _)
                have HF3 : Hid (Only (w.heap.size ≤ ·) w ((w6.setCell ⟨b2, 0, none⟩ (.slice A6 N6 c6)).setCell ⟨b2, 1, none⟩ (.int .i64 lim))) := Lib.hid ((HO6.out.setCell (p := ⟨b2, 0, none⟩) HBN.out.2.1 _).setCell (p := ⟨b2, 1, none⟩) HBN.out.2.1 _)
                exact bodyPost_ret (v := .tuple #[.agg #[.slice A6 N6 c6, .int .i64 lim], .int .i64 (q : Int), .int .i64 0]) (results_cell3 rfl rfl rfl rfl (load_pool HF1.out)) rfl ⟨⟨_, _, _, _, rfl, HV6.out.off HB26.out (fun _ _ => by simp) HF2.out HL5.out, .inl ⟨q, ⟨HST.out, HKM.out⟩, HG.out, HQM.out, rfl, rfl, rfl⟩⟩, HF3.out⟩
            · have e1' : ¬ (q : Int) + (k : Int) < (n : Int) := by omega
              by_cases e2 : k < m
              · have hkm : ((k : Int) == (m : Int)) = false := beq_eq_false_iff_ne.2 (by omega)
                have HNG : Hid (¬ GoodAt l m q) := Lib.hid fun h => by have := (List.getElem?_eq_some_iff.1 (h.2 k e2)).1; rw [← HN.out] at this; omega
                go_wp2_with (fail)
                go_roundg (n - (q + 1))
                case measure => omega
                case rel => exact ⟨q + 1, rfl, by omega, by go_num, Lib.hid (fun a' h => by
                  rcases Nat.lt_or_ge a' q with h1 | h1
                  · exact HG.out a' h1
                  · obtain rfl : a' = q := by omega
                    exact HNG.out), HB1, HB2, HO⟩
              · have hkm : ((k : Int) == (m : Int)) = true := beq_iff_eq.2 (by omega)
                have HKE : Hid (k = m) := Lib.hid (by omega)
                have HKM : Hid (FreeAt l q m) := Lib.hid (by rw [← HKE.out]; exact HF.out)
                have HQM : Hid (q + m ≤ l.length) := Lib.hid (by rw [← HN.out]; have := HKE.out; omega)
                have HSE : Hid (Calls Tryz.prog 36 #[.agg #[.slice (some ⟨gx, off, none⟩) n c, .int .i64 lim], .int .i64 (q : Int), .int .i64 (m : Int), .int .i64 (-2)] wr (GaveP wr lim (setP l q m (-2)))) := Lib.hid (rset_c wr _ lim (-2) q m l (HV0.out.later HO.out) (by rw [← HN.out]; omega) (by have := HQM.out; have := HN.out; omega) (by rw [← HN.out]; omega))
                have HL5 : Hid (2 ≤ (setP l q m (-2)).length ∨ setP l q m (-2) = []) := Lib.hid (.inl (by rw [setP_length _ _ (by rw [← HN.out]; omega), ← HN.out]; have := HH2.out; omega))
                go_wp2_with (go_at_call 36; (with_reducible refine HSE.out.mono ?_); rintro e w6 ⟨⟨v6, rfl, hv6⟩, ho6⟩; obtain ⟨A6, N6, c6, rfl⟩ := hv6.form; have HV6 := Lib.hid hv6; have HB26 := Lib.hid (HB2.out.later ho6); have HO6 := Lib.hid (on_new HO.out ho6); have r60 := (box_two HB26.out).1; have r61 := (box_two HB26.out).2; have g60 := HB26.out.frozen 0; have g61 := HB26.out.frozen 1; clear hv6 ho6)
                have HF1 : Hid (Blk ((w6.setCell ⟨b2, 0, none⟩ (.slice A6 N6 c6)).setCell ⟨b2, 1, none⟩ (.int .i64 lim)) b2 39 [(.slice A6 N6 c6), .int .i64 lim]) := Lib.hid ((HB26.out.set_ 0 _).set_ 1 _)
                have HF2 : Hid (Only (fun k => k = b2) w6 ((w6.setCell ⟨b2, 0, none⟩ (.slice A6 N6 c6)).setCell ⟨b2, 1, none⟩ (.int .i64 lim))) := Lib.hid (((Only.refl (fun k => k = b2) w6).setCell (p := ⟨b2, 0, none⟩) rfl _).setCell (p := ⟨b2, 1, none⟩) rfl _)
                have HF3 : Hid (Only (w.heap.size ≤ ·) w ((w6.setCell ⟨b2, 0, none⟩ (.slice A6 N6 c6)).setCell ⟨b2, 1, none⟩ (.int .i64 lim))) := Lib.hid ((HO6.out.setCell (p := ⟨b2, 0, none⟩) HBN.out.2.1 _).setCell (p := ⟨b2, 1, none⟩) HBN.out.2.1 _)
                exact bodyPost_ret (v := .tuple #[.agg #[.slice A6 N6 c6, .int .i64 lim], .int .i64 (q : Int), .int .i64 0]) (results_cell3 rfl rfl rfl rfl (load_pool HF1.out)) rfl ⟨⟨_, _, _, _, rfl, HV6.out.off HB26.out (fun _ _ => by simp) HF2.out HL5.out, .inl ⟨q, ⟨HST.out, HKM.out⟩, HG.out, HQM.out, rfl, rfl, rfl⟩⟩, HF3.out⟩
        · have hz1 : ((q : Int) == 0) = false := beq_eq_false_iff_ne.2 (by omega)
          obtain ⟨gy, offy, cy, y, ey, hy, hcy⟩ := HVR.out.at_ (k := q - 1) (by rw [← HN.out]; omega)
          have HY := Lib.hid hy
          simp only [Value.slice.injEq, Option.some.injEq, Addr.mk.injEq, and_true, true_and] at ey
          obtain ⟨⟨rfl, rfl⟩, ey7, rfl⟩ := ey
          clear ey7 hy
          have a1 : (1 : Int) ≤ (q : Int) := by omega
          have a0 : (0 : Int) ≤ (q : Int) - 1 := by omega
          have a2 : (q : Int) - 1 < (n : Int) := by omega
          have an : ((q : Int) - 1).toNat = q - 1 := by omega
          have DZ := Lib.hid dz
          by_cases dy : y = -1
          · have hy1 : (y != -1) = false := by simp [dy]
            have hy2 : (y == -1) = true := beq_iff_eq.2 dy
            have HNG : Hid (¬ GoodAt l m q) := Lib.hid fun h => by
              rcases h.1.2 with h | h
              · exact dz h
              · rw [HY.out, dy] at h; exact h rfl
            clear dy dz
            go_wp2_with (fail)
            go_roundg (n - (q + 1))
            case measure => omega
            case rel => exact ⟨q + 1, rfl, by omega, by go_num, Lib.hid (fun a' h => by
              rcases Nat.lt_or_ge a' q with h1 | h1
              · exact HG.out a' h1
              · obtain rfl : a' = q := by omega
                exact HNG.out), HB1, HB2, HO⟩
          · have hy1 : (y != -1) = true := by simp [dy]
            have hy2 : (y == -1) = false := beq_eq_false_iff_ne.2 dy
            have HST : Hid (StartAt l q) := Lib.hid ⟨DX.out, .inr (by rw [HY.out]; simpa using dy)⟩
            clear dy dz
            go_wp2_with (fail)
            go_loopg [8] m (fun gk1 s wq => ∃ k : Nat, gk1 = m - k ∧ k ≤ m ∧ q + k ≤ n ∧ s = .int .i64 (k : Int) ∧ Hid (FreeAt l q k) ∧ Hid (Blk wq b1 39 [.slice (some ⟨gx, off, none⟩) n c, .int .i64 lim]) ∧ Hid (Blk wq b2 39 [.slice none 0 0, .int .i64 0]) ∧ Hid (Only (w.heap.size ≤ ·) w wq))
            case atStart => exact ⟨0, rfl, Nat.zero_le _, by omega, rfl, Lib.hid fun i h => absurd h (by omega), HB1, HB2, HO⟩
            case round =>
              obtain ⟨k, rfl, hk, hqk, rfl, HF, HB1, HB2, HO⟩ := hrel
              have HVR := Lib.hid (HV0.out.later HO.out)
              obtain ⟨q0, q1⟩ := box_two HB1.out
              by_cases e1 : q + k < n
              · have e1' : (q : Int) + (k : Int) < (n : Int) := by omega
                by_cases e2 : k < m
                · have e2' : (k : Int) < (m : Int) := by omega
                  obtain ⟨gz, offz, cz, z, ez, hz, hcz⟩ := HVR.out.at_ (k := q + k) (by rw [← HN.out]; omega)
                  have HZ := Lib.hid hz
                  simp only [Value.slice.injEq, Option.some.injEq, Addr.mk.injEq, and_true, true_and] at ez
                  obtain ⟨⟨rfl, rfl⟩, ez7, rfl⟩ := ez
                  clear ez7 hz
                  by_cases e3 : z = -1
                  · have hb3 : (z == -1) = true := beq_iff_eq.2 e3
                    have E3 : Hid (l[q + k]? = some (-1)) := Lib.hid (by rw [HZ.out, e3])
                    clear e3
                    go_wp2_with (fail)
                    go_roundg (m - (k + 1))
                    case measure => omega
                    case rel => exact ⟨k + 1, rfl, by omega, by omega, by go_num, Lib.hid (HF.out.succ E3.out), HB1, HB2, HO⟩
                  · have hb3 : (z == -1) = false := beq_eq_false_iff_ne.2 e3
                    have hkm : ((k : Int) == (m : Int)) = false := beq_eq_false_iff_ne.2 (by omega)
                    have HNG : Hid (¬ GoodAt l m q) := Lib.hid fun h => by have := h.2 k e2; rw [HZ.out] at this; exact e3 (by simpa using this)
                    clear e3
                    go_wp2_with (fail)
                    go_roundg (n - (q + 1))
                    case measure => omega
                    case rel => exact ⟨q + 1, rfl, by omega, by go_num, Lib.hid (fun a' h => by
                      rcases Nat.lt_or_ge a' q with h1 | h1
                      · exact HG.out a' h1
                      · obtain rfl : a' = q := by omega
                        exact HNG.out), HB1, HB2, HO⟩
                · obtain ⟨KE, hke⟩ : ∃ KE, KE = k := ⟨_, rfl⟩
                  have e2' : ¬ (k : Int) < (m : Int) := by omega
                  have hkm : ((k : Int) == (m : Int)) = true := beq_iff_eq.2 (by omega)
                  have HKE : Hid (k = m) := Lib.hid (by omega)
                  clear hke
                  have HKM : Hid (FreeAt l q m) := Lib.hid (by rw [← HKE.out]; exact HF.out)
                  have HQM : Hid (q + m ≤ l.length) := Lib.hid (by rw [← HN.out]; have := HKE.out; omega)
                  have HSE : Hid (Calls Tryz.prog 36 #[.agg #[.slice (some ⟨gx, off, none⟩) n c, .int .i64 lim], .int .i64 (q : Int), .int .i64 (m : Int), .int .i64 (-2)] wr (GaveP wr lim (setP l q m (-2)))) := Lib.hid (rset_c wr _ lim (-2) q m l (HV0.out.later HO.out) (by rw [← HN.out]; omega) (by have := HQM.out; have := HN.out; omega) (by rw [← HN.out]; omega))
                  have HL5 : Hid (2 ≤ (setP l q m (-2)).length ∨ setP l q m (-2) = []) := Lib.hid (.inl (by rw [setP_length _ _ (by rw [← HN.out]; omega), ← HN.out]; have := HH2.out; omega))
                  go_wp2_with (go_at_call 36; (with_reducible refine HSE.out.mono ?_); rintro e w6 ⟨⟨v6, rfl, hv6⟩, ho6⟩; obtain ⟨A6, N6, c6, rfl⟩ := hv6.form; have HV6 := Lib.hid hv6; have HB26 := Lib.hid (HB2.out.later ho6); have HO6 := Lib.hid (on_new HO.out ho6); have r60 := (box_two HB26.out).1; have r61 := (box_two HB26.out).2; have g60 := HB26.out.frozen 0; have g61 := HB26.out.frozen 1; clear hv6 ho6)
                  have HF1 : Hid (Blk ((w6.setCell ⟨b2, 0, none⟩ (.slice A6 N6 c6)).setCell ⟨b2, 1, none⟩ (.int .i64 lim)) b2 39 [(.slice A6 N6 c6), .int .i64 lim]) := Lib.hid ((HB26.out.set_ 0 _).set_ 1 _)
                  have HF2 : Hid (Only (fun k => k = b2) w6 ((w6.setCell ⟨b2, 0, none⟩ (.slice A6 N6 c6)).setCell ⟨b2, 1, none⟩ (.int .i64 lim))) := Lib.hid (((Only.refl (fun k => k = b2) w6).setCell (p := ⟨b2, 0, none⟩) rfl _).setCell (p := ⟨b2, 1, none⟩) rfl _)
                  have HF3 : Hid (Only (w.heap.size ≤ ·) w ((w6.setCell ⟨b2, 0, none⟩ (.slice A6 N6 c6)).setCell ⟨b2, 1, none⟩ (.int .i64 lim))) := Lib.hid ((HO6.out.setCell (p := ⟨b2, 0, none⟩) HBN.out.2.1 _).setCell (p := ⟨b2, 1, none⟩) HBN.out.2.1 _)
                  exact bodyPost_ret (v := .tuple #[.agg #[.slice A6 N6 c6, .int .i64 lim], .int .i64 (q : Int), .int .i64 0]) (results_cell3 rfl rfl rfl rfl (load_pool HF1.out)) rfl ⟨⟨_, _, _, _, rfl, HV6.out.off HB26.out (fun _ _ => by simp) HF2.out HL5.out, .inl ⟨q, ⟨HST.out, HKM.out⟩, HG.out, HQM.out, rfl, rfl, rfl⟩⟩, HF3.out⟩
              · have e1' : ¬ (q : Int) + (k : Int) < (n : Int) := by omega
                by_cases e2 : k < m
                · have hkm : ((k : Int) == (m : Int)) = false := beq_eq_false_iff_ne.2 (by omega)
                  have HNG : Hid (¬ GoodAt l m q) := Lib.hid fun h => by have := (List.getElem?_eq_some_iff.1 (h.2 k e2)).1; rw [← HN.out] at this; omega
                  go_wp2_with (fail)
                  go_roundg (n - (q + 1))
                  case measure => omega
                  case rel => exact ⟨q + 1, rfl, by omega, by go_num, Lib.hid (fun a' h => by
                    rcases Nat.lt_or_ge a' q with h1 | h1
                    · exact HG.out a' h1
                    · obtain rfl : a' = q := by omega
                      exact HNG.out), HB1, HB2, HO⟩
                · have hkm : ((k : Int) == (m : Int)) = true := beq_iff_eq.2 (by omega)
                  have HKE : Hid (k = m) := Lib.hid (by omega)
                  have HKM : Hid (FreeAt l q m) := Lib.hid (by rw [← HKE.out]; exact HF.out)
                  have HQM : Hid (q + m ≤ l.length) := Lib.hid (by rw [← HN.out]; have := HKE.out; omega)
                  have HSE : Hid (Calls Tryz.prog 36 #[.agg #[.slice (some ⟨gx, off, none⟩) n c, .int .i64 lim], .int .i64 (q : Int), .int .i64 (m : Int), .int .i64 (-2)] wr (GaveP wr lim (setP l q m (-2)))) := Lib.hid (rset_c wr _ lim (-2) q m l (HV0.out.later HO.out) (by rw [← HN.out]; omega) (by have := HQM.out; have := HN.out; omega) (by rw [← HN.out]; omega))
                  have HL5 : Hid (2 ≤ (setP l q m (-2)).length ∨ setP l q m (-2) = []) := Lib.hid (.inl (by rw [setP_length _ _ (by rw [← HN.out]; omega), ← HN.out]; have := HH2.out; omega))
                  go_wp2_with (go_at_call 36; (with_reducible refine HSE.out.mono ?_); rintro e w6 ⟨⟨v6, rfl, hv6⟩, ho6⟩; obtain ⟨A6, N6, c6, rfl⟩ := hv6.form; have HV6 := Lib.hid hv6; have HB26 := Lib.hid (HB2.out.later ho6); have HO6 := Lib.hid (on_new HO.out ho6); have r60 := (box_two HB26.out).1; have r61 := (box_two HB26.out).2; have g60 := HB26.out.frozen 0; have g61 := HB26.out.frozen 1; clear hv6 ho6)
                  have HF1 : Hid (Blk ((w6.setCell ⟨b2, 0, none⟩ (.slice A6 N6 c6)).setCell ⟨b2, 1, none⟩ (.int .i64 lim)) b2 39 [(.slice A6 N6 c6), .int .i64 lim]) := Lib.hid ((HB26.out.set_ 0 _).set_ 1 _)
                  have HF2 : Hid (Only (fun k => k = b2) w6 ((w6.setCell ⟨b2, 0, none⟩ (.slice A6 N6 c6)).setCell ⟨b2, 1, none⟩ (.int .i64 lim))) := Lib.hid (((Only.refl (fun k => k = b2) w6).setCell (p := ⟨b2, 0, none⟩) rfl _).setCell (p := ⟨b2, 1, none⟩) rfl _)
                  have HF3 : Hid (Only (w.heap.size ≤ ·) w ((w6.setCell ⟨b2, 0, none⟩ (.slice A6 N6 c6)).setCell ⟨b2, 1, none⟩ (.int .i64 lim))) := Lib.hid ((HO6.out.setCell (p := ⟨b2, 0, none⟩) HBN.out.2.1 _).setCell (p := ⟨b2, 1, none⟩) HBN.out.2.1 _)
                  exact bodyPost_ret (v := .tuple #[.agg #[.slice A6 N6 c6, .int .i64 lim], .int .i64 (q : Int), .int .i64 0]) (results_cell3 rfl rfl rfl rfl (load_pool HF1.out)) rfl ⟨⟨_, _, _, _, rfl, HV6.out.off HB26.out (fun _ _ => by simp) HF2.out HL5.out, .inl ⟨q, ⟨HST.out, HKM.out⟩, HG.out, HQM.out, rfl, rfl, rfl⟩⟩, HF3.out⟩
      · have hb1 : (x == -1) = false := beq_eq_false_iff_ne.2 dx
        have HNG : Hid (¬ GoodAt l m q) := Lib.hid fun h => by have := h.1.1; rw [HX.out] at this; exact dx (by simpa using this)
        clear dx
        go_wp2_with (fail)
        go_roundg (n - (q + 1))
        case measure => omega
        case rel => exact ⟨q + 1, rfl, by omega, by go_num, Lib.hid (fun a' h => by
          rcases Nat.lt_or_ge a' q with h1 | h1
          · exact HG.out a' h1
          · obtain rfl : a' = q := by omega
            exact HNG.out), HB1, HB2, HO⟩
    · obtain rfl : q = n := by omega
      have hkm : ¬ (q : Int) < (q : Int) := by omega
      have HNONE : Hid (∀ a', ¬ GoodAt l m a') := Lib.hid fun a' h => by
        have h0 := (List.getElem?_eq_some_iff.1 h.1.1).1
        exact HG.out a' (by rw [HN.out]; exact h0) h
      go_wp2_with (fail)
      clear hkm q0 q1 hlt
      go_loopg [9] (q + 1) (fun gk1 s wr => ∃ p : Nat, gk1 = p + 1 ∧ p ≤ q ∧ s = .int .i64 (p : Int) ∧ Hid (∀ j, p ≤ j → j < l.length → l[j]? = some (-1)) ∧ Hid (Blk wr b1 39 [.slice A q c, .int .i64 lim]) ∧ Hid (Blk wr b2 39 [.slice none 0 0, .int .i64 0]) ∧ Hid (Only (w.heap.size ≤ ·) w wr))
      case atStart => exact ⟨q, rfl, Nat.le_refl _, rfl, Lib.hid fun j h1 h2 => absurd h2 (by rw [← HN.out]; omega), HB1, HB2, HO⟩
      case round =>
        obtain ⟨p, rfl, hp, rfl, HT, HB1, HB2, HO⟩ := hrel
        have HVR := Lib.hid (HV0.out.later HO.out)
        obtain ⟨q0, q1⟩ := box_two HB1.out
        by_cases dz : p = 0
        · have hz : ¬ (0 : Int) < (p : Int) := by omega
          have HTL : Hid (TailAt l p) := Lib.hid ⟨by rw [← HN.out]; exact hp, HT.out, .inl dz⟩
          clear dz
          obtain ⟨r0, r1⟩ := box_two HB2.out
          have g0 := HB2.out.frozen 0
          have g1 := HB2.out.frozen 1
          by_cases e1 : lim < (m : Int)
          · have EF : Hid (lim < (m : Int) ∨ lim < (p : Int) + (m : Int)) := Lib.hid (.inl e1)
            have HF1 : Hid (Blk ((wr.setCell ⟨b2, 0, none⟩ (.slice A q c)).setCell ⟨b2, 1, none⟩ (.int .i64 lim)) b2 39 [(.slice A q c), .int .i64 lim]) := Lib.hid ((HB2.out.set_ 0 _).set_ 1 _)
            have HF2 : Hid (Only (fun k => k = b2) wr ((wr.setCell ⟨b2, 0, none⟩ (.slice A q c)).setCell ⟨b2, 1, none⟩ (.int .i64 lim))) := Lib.hid (((Only.refl (fun k => k = b2) wr).setCell (p := ⟨b2, 0, none⟩) rfl _).setCell (p := ⟨b2, 1, none⟩) rfl _)
            have HF3 : Hid (Only (w.heap.size ≤ ·) w ((wr.setCell ⟨b2, 0, none⟩ (.slice A q c)).setCell ⟨b2, 1, none⟩ (.int .i64 lim))) := Lib.hid ((HO.out.setCell (p := ⟨b2, 0, none⟩) HBN.out.2.1 _).setCell (p := ⟨b2, 1, none⟩) HBN.out.2.1 _)
            go_wp2_with (fail)
            all_goals exact bodyPost_ret (v := .tuple #[.agg #[.slice A q c, .int .i64 lim], .int .i64 0, .int .i64 12]) (results_cell3 rfl rfl rfl rfl (load_pool HF1.out)) rfl ⟨⟨_, _, _, _, rfl, HVR.out.off HB2.out (fun _ _ => by simp) HF2.out H2.out, .inr ⟨HNONE.out, p, HTL.out, .inl ⟨EF.out, rfl, rfl, rfl⟩⟩⟩, HF3.out⟩
          · have hw : IntKind.i64.wrap ((p : Int) + (m : Int)) = (p : Int) + (m : Int) := IntWalk.i64_in _ (by omega)
            by_cases e2 : lim < (p : Int) + (m : Int)
            · have EF : Hid (lim < (m : Int) ∨ lim < (p : Int) + (m : Int)) := Lib.hid (.inr e2)
              have HF1 : Hid (Blk ((wr.setCell ⟨b2, 0, none⟩ (.slice A q c)).setCell ⟨b2, 1, none⟩ (.int .i64 lim)) b2 39 [(.slice A q c), .int .i64 lim]) := Lib.hid ((HB2.out.set_ 0 _).set_ 1 _)
              have HF2 : Hid (Only (fun k => k = b2) wr ((wr.setCell ⟨b2, 0, none⟩ (.slice A q c)).setCell ⟨b2, 1, none⟩ (.int .i64 lim))) := Lib.hid (((Only.refl (fun k => k = b2) wr).setCell (p := ⟨b2, 0, none⟩) rfl _).setCell (p := ⟨b2, 1, none⟩) rfl _)
              have HF3 : Hid (Only (w.heap.size ≤ ·) w ((wr.setCell ⟨b2, 0, none⟩ (.slice A q c)).setCell ⟨b2, 1, none⟩ (.int .i64 lim))) := Lib.hid ((HO.out.setCell (p := ⟨b2, 0, none⟩) HBN.out.2.1 _).setCell (p := ⟨b2, 1, none⟩) HBN.out.2.1 _)
              go_wp2_with (fail)
              all_goals exact bodyPost_ret (v := .tuple #[.agg #[.slice A q c, .int .i64 lim], .int .i64 0, .int .i64 12]) (results_cell3 rfl rfl rfl rfl (load_pool HF1.out)) rfl ⟨⟨_, _, _, _, rfl, HVR.out.off HB2.out (fun _ _ => by simp) HF2.out H2.out, .inr ⟨HNONE.out, p, HTL.out, .inl ⟨EF.out, rfl, rfl, rfl⟩⟩⟩, HF3.out⟩
            · have EF : Hid (¬ (lim < (m : Int) ∨ lim < (p : Int) + (m : Int))) := Lib.hid (by omega)
              have HSE : Hid (Calls Tryz.prog 36 #[.agg #[.slice A q c, .int .i64 lim], .int .i64 (p : Int), .int .i64 (m : Int), .int .i64 (-2)] wr (GaveP wr lim (setP l p m (-2)))) := Lib.hid (rset_c wr _ lim (-2) p m l HVR.out HTL.out.1 (by omega) (by rw [← HN.out]; omega))
              have HL5 : Hid (2 ≤ (setP l p m (-2)).length ∨ setP l p m (-2) = []) := Lib.hid (.inl (by rw [setP_length _ _ HTL.out.1, ← HN.out]; have := HH2.out; omega))
              go_wp2_with (go_at_call 36; (with_reducible refine HSE.out.mono ?_); rintro e w6 ⟨⟨v6, rfl, hv6⟩, ho6⟩; obtain ⟨A6, N6, c6, rfl⟩ := hv6.form; have HV6 := Lib.hid hv6; have HB26 := Lib.hid (HB2.out.later ho6); have HO6 := Lib.hid (on_new HO.out ho6); have r60 := (box_two HB26.out).1; have r61 := (box_two HB26.out).2; have g60 := HB26.out.frozen 0; have g61 := HB26.out.frozen 1; clear hv6 ho6)
              have HF1 : Hid (Blk ((w6.setCell ⟨b2, 0, none⟩ (.slice A6 N6 c6)).setCell ⟨b2, 1, none⟩ (.int .i64 lim)) b2 39 [(.slice A6 N6 c6), .int .i64 lim]) := Lib.hid ((HB26.out.set_ 0 _).set_ 1 _)
              have HF2 : Hid (Only (fun k => k = b2) w6 ((w6.setCell ⟨b2, 0, none⟩ (.slice A6 N6 c6)).setCell ⟨b2, 1, none⟩ (.int .i64 lim))) := Lib.hid (((Only.refl (fun k => k = b2) w6).setCell (p := ⟨b2, 0, none⟩) rfl _).setCell (p := ⟨b2, 1, none⟩) rfl _)
              have HF3 : Hid (Only (w.heap.size ≤ ·) w ((w6.setCell ⟨b2, 0, none⟩ (.slice A6 N6 c6)).setCell ⟨b2, 1, none⟩ (.int .i64 lim))) := Lib.hid ((HO6.out.setCell (p := ⟨b2, 0, none⟩) HBN.out.2.1 _).setCell (p := ⟨b2, 1, none⟩) HBN.out.2.1 _)
              exact bodyPost_ret (v := .tuple #[.agg #[.slice A6 N6 c6, .int .i64 lim], .int .i64 (p : Int), .int .i64 0]) (results_cell3 rfl rfl rfl rfl (load_pool HF1.out)) rfl ⟨⟨_, _, _, _, rfl, HV6.out.off HB26.out (fun _ _ => by simp) HF2.out HL5.out, .inr ⟨HNONE.out, p, HTL.out, .inr ⟨EF.out, rfl, rfl, rfl⟩⟩⟩, HF3.out⟩
        · obtain ⟨gy, offy, cy, y, ey, hy, hcy⟩ := HVR.out.at_ (k := p - 1) (by rw [← HN.out]; omega)
          have HY := Lib.hid hy
          simp only [Value.slice.injEq] at ey
          obtain ⟨rfl, ey7, rfl⟩ := ey
          clear ey7 hy
          have a3 : (0 : Int) < (p : Int) := by omega
          have a1 : (1 : Int) ≤ (p : Int) := by omega
          have a0 : (0 : Int) ≤ (p : Int) - 1 := by omega
          have a2 : (p : Int) - 1 < (q : Int) := by omega
          have an : ((p : Int) - 1).toNat = p - 1 := by omega
          by_cases dy : y = -1
          · have hy2 : (y == -1) = true := beq_iff_eq.2 dy
            have DY : Hid (l[p - 1]? = some (-1)) := Lib.hid (by rw [HY.out, dy])
            clear dy
            go_wp2_with (fail)
            go_roundg (p - 1 + 1)
            case measure => omega
            case rel => exact ⟨p - 1, rfl, by omega, congrArg (Value.int .i64) (by omega), Lib.hid (fun j h1 h2 => by
              rcases Nat.lt_or_ge j p with h3 | h3
              · obtain rfl : j = p - 1 := by omega
                exact DY.out
              · exact HT.out j h3 h2), HB1, HB2, HO⟩
          · have hy2 : (y == -1) = false := beq_eq_false_iff_ne.2 dy
            have HTL : Hid (TailAt l p) := Lib.hid ⟨by rw [← HN.out]; exact hp, HT.out, .inr (by rw [HY.out]; simpa using dy)⟩
            clear dy dz
            obtain ⟨r0, r1⟩ := box_two HB2.out
            have g0 := HB2.out.frozen 0
            have g1 := HB2.out.frozen 1
            by_cases e1 : lim < (m : Int)
            · have EF : Hid (lim < (m : Int) ∨ lim < (p : Int) + (m : Int)) := Lib.hid (.inl e1)
              have HF1 : Hid (Blk ((wr.setCell ⟨b2, 0, none⟩ (.slice (some ⟨gy, offy, none⟩) q c)).setCell ⟨b2, 1, none⟩ (.int .i64 lim)) b2 39 [(.slice (some ⟨gy, offy, none⟩) q c), .int .i64 lim]) := Lib.hid ((HB2.out.set_ 0 _).set_ 1 _)
              have HF2 : Hid (Only (fun k => k = b2) wr ((wr.setCell ⟨b2, 0, none⟩ (.slice (some ⟨gy, offy, none⟩) q c)).setCell ⟨b2, 1, none⟩ (.int .i64 lim))) := Lib.hid (((Only.refl (fun k => k = b2) wr).setCell (p := ⟨b2, 0, none⟩) rfl _).setCell (p := ⟨b2, 1, none⟩) rfl _)
              have HF3 : Hid (Only (w.heap.size ≤ ·) w ((wr.setCell ⟨b2, 0, none⟩ (.slice (some ⟨gy, offy, none⟩) q c)).setCell ⟨b2, 1, none⟩ (.int .i64 lim))) := Lib.hid ((HO.out.setCell (p := ⟨b2, 0, none⟩) HBN.out.2.1 _).setCell (p := ⟨b2, 1, none⟩) HBN.out.2.1 _)
              go_wp2_with (fail)
              all_goals exact bodyPost_ret (v := .tuple #[.agg #[.slice (some ⟨gy, offy, none⟩) q c, .int .i64 lim], .int .i64 0, .int .i64 12]) (results_cell3 rfl rfl rfl rfl (load_pool HF1.out)) rfl ⟨⟨_, _, _, _, rfl, HVR.out.off HB2.out (fun _ _ => by simp) HF2.out H2.out, .inr ⟨HNONE.out, p, HTL.out, .inl ⟨EF.out, rfl, rfl, rfl⟩⟩⟩, HF3.out⟩
            · have hw : IntKind.i64.wrap ((p : Int) + (m : Int)) = (p : Int) + (m : Int) := IntWalk.i64_in _ (by omega)
              by_cases e2 : lim < (p : Int) + (m : Int)
              · have EF : Hid (lim < (m : Int) ∨ lim < (p : Int) + (m : Int)) := Lib.hid (.inr e2)
                have HF1 : Hid (Blk ((wr.setCell ⟨b2, 0, none⟩ (.slice (some ⟨gy, offy, none⟩) q c)).setCell ⟨b2, 1, none⟩ (.int .i64 lim)) b2 39 [(.slice (some ⟨gy, offy, none⟩) q c), .int .i64 lim]) := Lib.hid ((HB2.out.set_ 0 _).set_ 1 _)
                have HF2 : Hid (Only (fun k => k = b2) wr ((wr.setCell ⟨b2, 0, none⟩ (.slice (some ⟨gy, offy, none⟩) q c)).setCell ⟨b2, 1, none⟩ (.int .i64 lim))) := Lib.hid (((Only.refl (fun k => k = b2) wr).setCell (p := ⟨b2, 0, none⟩) rfl _).setCell (p := ⟨b2, 1, none⟩) rfl _)
                have HF3 : Hid (Only (w.heap.size ≤ ·) w ((wr.setCell ⟨b2, 0, none⟩ (.slice (some ⟨gy, offy, none⟩) q c)).setCell ⟨b2, 1, none⟩ (.int .i64 lim))) := Lib.hid ((HO.out.setCell (p := ⟨b2, 0, none⟩) HBN.out.2.1 _).setCell (p := ⟨b2, 1, none⟩) HBN.out.2.1 _)
                go_wp2_with (fail)
                all_goals exact bodyPost_ret (v := .tuple #[.agg #[.slice (some ⟨gy, offy, none⟩) q c, .int .i64 lim], .int .i64 0, .int .i64 12]) (results_cell3 rfl rfl rfl rfl (load_pool HF1.out)) rfl ⟨⟨_, _, _, _, rfl, HVR.out.off HB2.out (fun _ _ => by simp) HF2.out H2.out, .inr ⟨HNONE.out, p, HTL.out, .inl ⟨EF.out, rfl, rfl, rfl⟩⟩⟩, HF3.out⟩
              · have EF : Hid (¬ (lim < (m : Int) ∨ lim < (p : Int) + (m : Int))) := Lib.hid (by omega)
                have HSE : Hid (Calls Tryz.prog 36 #[.agg #[.slice (some ⟨gy, offy, none⟩) q c, .int .i64 lim], .int .i64 (p : Int), .int .i64 (m : Int), .int .i64 (-2)] wr (GaveP wr lim (setP l p m (-2)))) := Lib.hid (rset_c wr _ lim (-2) p m l HVR.out HTL.out.1 (by omega) (by rw [← HN.out]; omega))
                have HL5 : Hid (2 ≤ (setP l p m (-2)).length ∨ setP l p m (-2) = []) := Lib.hid (.inl (by rw [setP_length _ _ HTL.out.1, ← HN.out]; have := HH2.out; omega))
                go_wp2_with (go_at_call 36; (with_reducible refine HSE.out.mono ?_); rintro e w6 ⟨⟨v6, rfl, hv6⟩, ho6⟩; obtain ⟨A6, N6, c6, rfl⟩ := hv6.form; have HV6 := Lib.hid hv6; have HB26 := Lib.hid (HB2.out.later ho6); have HO6 := Lib.hid (on_new HO.out ho6); have r60 := (box_two HB26.out).1; have r61 := (box_two HB26.out).2; have g60 := HB26.out.frozen 0; have g61 := HB26.out.frozen 1; clear hv6 ho6)
                have HF1 : Hid (Blk ((w6.setCell ⟨b2, 0, none⟩ (.slice A6 N6 c6)).setCell ⟨b2, 1, none⟩ (.int .i64 lim)) b2 39 [(.slice A6 N6 c6), .int .i64 lim]) := Lib.hid ((HB26.out.set_ 0 _).set_ 1 _)
                have HF2 : Hid (Only (fun k => k = b2) w6 ((w6.setCell ⟨b2, 0, none⟩ (.slice A6 N6 c6)).setCell ⟨b2, 1, none⟩ (.int .i64 lim))) := Lib.hid (((Only.refl (fun k => k = b2) w6).setCell (p := ⟨b2, 0, none⟩) rfl _).setCell (p := ⟨b2, 1, none⟩) rfl _)
                have HF3 : Hid (Only (w.heap.size ≤ ·) w ((w6.setCell ⟨b2, 0, none⟩ (.slice A6 N6 c6)).setCell ⟨b2, 1, none⟩ (.int .i64 lim))) := Lib.hid ((HO6.out.setCell (p := ⟨b2, 0, none⟩) HBN.out.2.1 _).setCell (p := ⟨b2, 1, none⟩) HBN.out.2.1 _)
                exact bodyPost_ret (v := .tuple #[.agg #[.slice A6 N6 c6, .int .i64 lim], .int .i64 (p : Int), .int .i64 0]) (results_cell3 rfl rfl rfl rfl (load_pool HF1.out)) rfl ⟨⟨_, _, _, _, rfl, HV6.out.off HB26.out (fun _ _ => by simp) HF2.out HL5.out, .inr ⟨HNONE.out, p, HTL.out, .inr ⟨EF.out, rfl, rfl, rfl⟩⟩⟩, HF3.out⟩
end Go.Proofs.YtmadlckladohbaaGreat

/-
  The document's search for room, beside the pool's.
-/
set_option linter.unusedVariables false
namespace Go.Proofs.YtmadlckladohbaaGreat
open Go.RowKit Go.Shelf

theorem behind_all {x : R} : ∀ {l : List R}, rightFrom (some x) l = true → 0 ≤ x.2 → ∀ y ∈ l, x.1 + x.2 < y.1
  | [], _, _, y, hy => by simp at hy
  | z :: l, h, h0, y, hy => by
    obtain ⟨h1, h2, h3⟩ := rightFrom_cons.1 h
    rw [gap_some] at h2
    have hz := (may_iff z).1 h1
    rcases List.mem_cons.1 hy with rfl | hy
    · omega
    · have := behind_all h3 (by omega) y hy
      omega
theorem right_before : ∀ {l : List R}, right l = true → ∀ {i j : Nat} {x y : R}, i < j → l[i]? = some x → l[j]? = some y → x.1 + x.2 < y.1
  | [], _, i, j, x, y, _, hx, _ => by simp at hx
  | z :: l, h, i, j, x, y, hij, hx, hy => by
    cases j with
    | zero => omega
    | succ j =>
      rw [List.getElem?_cons_succ] at hy
      cases i with
      | zero =>
        simp at hx
        subst hx
        obtain ⟨h1, h2⟩ := right_cons.1 h
        have := (may_iff z).1 h1
        exact behind_all h2 (by omega) y (List.mem_of_getElem? hy)
      | succ i =>
        rw [List.getElem?_cons_succ] at hx
        exact right_before (right_tail h) (by omega) hx hy
section
variable {S : PS} {l : List Int}
theorem who_free (h : WhoS S l) (hok : S.Ok) (k : Nat) : l[k]? = some (-1) ↔ S.F k := by
  constructor
  · intro hx
    exact (Who1.free hok (h.2 k _ hx)).1 rfl
  · intro hf
    have hl := h.1
    obtain ⟨x, hx, hw⟩ := h.at_ (k := k) (by have := (hok.free k hf).2; omega)
    rw [hx, (Who1.free hok hw).2 hf]
theorem good_run (h : WhoS S l) (hok : S.Ok) {fl : List R} (hr : IsRow fl S.F) {m a : Nat} (hm : 1 ≤ m) (hg : GoodAt l m a) : ∃ (j : Nat) (r : R), fl[j]? = some r ∧ r.1 = (a : Int) ∧ (m : Int) ≤ r.2 := by
  obtain ⟨⟨h1, h2⟩, h3⟩ := hg
  have hf := (who_free h hok a).1 h1
  obtain ⟨r, hmem, hin⟩ := (inn_iff _ _).1 ((hr.2 _).2 hf)
  obtain ⟨j, hj⟩ := List.getElem?_of_mem hmem
  have hmr := (may_iff r).1 (right_may hr.1 r hmem)
  unfold within at hin
  have hra : r.1 = a := by
    rcases Int.lt_or_le r.1 a with hlt | hle
    · exfalso
      have hfa : S.F ((a - 1 : Nat) : Int) := (hr.2 _).1 ((inn_iff _ _).2 ⟨r, hmem, by unfold within; omega⟩)
      rcases h2 with h2 | h2
      · omega
      · exact h2 ((who_free h hok (a - 1)).2 hfa)
    · omega
  refine ⟨j, r, hj, hra, ?_⟩
  rcases Int.lt_or_le r.2 m with hlt | hle
  · exfalso
    have he := run_end_out hr.1 r hmem
    have hx := h3 r.2.toNat (by omega)
    have hf2 := (who_free h hok _).1 hx
    have : inn fl ((a + r.2.toNat : Nat) : Int) = true := (hr.2 _).2 hf2
    rw [show ((a + r.2.toNat : Nat) : Int) = r.1 + r.2 by omega, he] at this
    cases this
  · exact hle
theorem no_good (h : WhoS S l) (hok : S.Ok) {fl : List R} (hr : IsRow fl S.F) {m : Nat} (hm : 1 ≤ m) (hn : NoRoom fl m) (a : Nat) : ¬ GoodAt l m a := fun hg => by
  obtain ⟨j, r, hj, _, hle⟩ := good_run h hok hr hm hg
  rcases hn with hn | hn
  · omega
  · have := hn r (by rw [known_of hr.1]; exact List.mem_of_getElem? hj)
    omega
theorem first_good (h : WhoS S l) (hok : S.Ok) {fl : List R} (hr : IsRow fl S.F) {m : Nat} (hm : 1 ≤ m) {k : Nat} {r : R} (hf : First fl m k r) {a : Nat} (hg : GoodAt l m a) (hmin : ∀ a', a' < a → ¬ GoodAt l m a') : r.1 = a := by
  obtain ⟨f1, f2, f3, f4⟩ := first_at hok hr hf
  obtain ⟨_, g2, g3, g4⟩ := hf
  rw [known_of hr.1] at g2 g4
  obtain ⟨j, q, hj, hqa, hle⟩ := good_run h hok hr hm hg
  have hmr := (may_iff r).1 (right_may hr.1 r (List.mem_of_getElem? g2))
  have hmq := (may_iff q).1 (right_may hr.1 q (List.mem_of_getElem? hj))
  rcases Nat.lt_trichotomy j k with hjk | rfl | hjk
  · have := g4 j q hjk hj
    omega
  · rw [g2] at hj
    cases hj
    exact hqa
  · exfalso
    have hlt := right_before hr.1 hjk g2 hj
    refine hmin r.1.toNat (by omega) ⟨⟨(who_free h hok _).2 (f4 _ ⟨by omega, by omega⟩), ?_⟩, fun i hi => (who_free h hok _).2 (f4 _ ⟨by omega, by omega⟩)⟩
    refine .inr fun hx => ?_
    have hfr := (who_free h hok _).1 hx
    obtain ⟨z, hzm, hzi⟩ := (inn_iff _ _).1 ((hr.2 _).2 hfr)
    obtain ⟨i, hi⟩ := List.getElem?_of_mem hzm
    unfold within at hzi
    have hmz := (may_iff z).1 (right_may hr.1 z hzm)
    rcases Nat.lt_trichotomy i k with hik | rfl | hik
    · have := right_before hr.1 hik hi g2
      omega
    · rw [g2] at hi
      cases hi
      omega
    · have := right_before hr.1 hik g2 hi
      omega
theorem tail_same (h : WhoS S l) (hok : S.Ok) {a : Nat} (ht : TailAt l a) : IsTail S a := by
  obtain ⟨h1, h2, h3⟩ := ht
  have hl := h.1
  refine ⟨fun p hp1 hp2 => ?_, by omega, by omega, fun hf => ?_⟩
  · have := (who_free h hok p.toNat).1 (h2 p.toNat (by omega) (by omega))
    rwa [show ((p.toNat : Nat) : Int) = p by omega] at this
  · rcases h3 with rfl | h3
    · have := (hok.free _ hf).1
      omega
    · have h2' := (hok.free _ hf).1
      exact h3 ((who_free h hok (a - 1)).2 (by rwa [show ((a - 1 : Nat) : Int) = (a : Int) - 1 by omega]))
end
end Go.Proofs.YtmadlckladohbaaGreat

/-
  A state, as the document has it: the law's Old.
-/
set_option linter.unusedVariables false
namespace Go.Proofs.YtmadlckladohbaaGreat
open Go.RowKit Go.Shelf

def OwnM (w : World) (B : Nat) (v : Value) (n : Nat) (l : List R) : Prop := n = l.length ∧ w.ownsRow B 44 2 v n (rc l)
theorem OwnM.row {w : World} {B : Nat} {v : Value} {n : Nat} {l : List R} (h : OwnM w B v n l) : Row w v l := by
  obtain ⟨e, h⟩ := h
  subst e
  exact Own.row (t := 44) h
theorem own_off_m {w : World} {B n g : Nat} {v : Value} {l : List R} (h : OwnM w B v n l) (hg : g < B) : Off g v l := fun hn b off n' c e => by
  have := (World.ownsRow.lt h.2 b (by rw [e]; rfl)).1
  omega
theorem own_kept_m {w w' : World} {B n : Nat} {v : Value} {l : List R} (h : OwnM w B v n l) {row : Option Nat} (hg : w.grownBy w' row) (hne : v.ownBlock = none ∨ v.ownBlock ≠ row) : OwnM w' B v n l := ⟨h.1, World.ownsRow.kept h.2 hg hne⟩
theorem own_set_far_m {w : World} {B n : Nat} {v : Value} {l : List R} {p : Addr} (h : OwnM w B v n l) (hp : p.block < B) (u : Value) : OwnM (w.setCell p u) B v n l :=
  own_kept_m h (row := some p.block) ⟨rfl, rfl, rfl, by simp [World.setCell], fun k _ hk => Below.heap_setCell w p u k (fun e => hk (by rw [e]))⟩ (.inr fun e => by have := (World.ownsRow.lt h.2 _ e).1; omega)
theorem OwnM.alloc {w : World} {B n : Nat} {v : Value} {l : List R} (h : OwnM w B v n l) (o : Obj) : OwnM (w.alloc o) B v n l := ⟨h.1, World.ownsRow.alloc h.2 o⟩
theorem own_two_m {w : World} {B n : Nat} {v u : Value} {l : List R} (ha : ∀ g, u.ownBlock = some g → g < B) (h : OwnM w B v n l) : u.ownBlock = none ∨ u.ownBlock ≠ v.ownBlock := by
  cases hu : u.ownBlock with
  | none => exact .inl rfl
  | some g =>
    refine .inr fun e => ?_
    have := (World.ownsRow.lt h.2 g e.symm).1
    have := ha g hu
    omega
theorem own_off_some_m {w : World} {B n g : Nat} {v : Value} {l : List R} (h : OwnM w B v n l) (hg : g < B) : v.ownBlock ≠ some g := fun e => by
  have := (World.ownsRow.lt h.2 g e).1
  omega
set_option maxRecDepth 100000 in
set_option maxHeartbeats 6400000 in
theorem pOld_c (w : World) (A B : Option Addr) (nn cc mm dd : Nat) (a b : List R) (ha : Row w (.slice A nn cc) a) (hb : Row w (.slice B mm dd) b) (hla : a.length ≤ 2000000) (hlb : b.length ≤ 2000000) :
    Calls Tryz.prog 34 #[.agg #[.slice A nn cc, .slice B mm dd]] w (OfSt w a b) := by
  obtain ⟨i0, hi0, hz0, hz1, hz2⟩ := info_parts infoRef
  have HI := Lib.hid (And.intro hi0 (And.intro hz0 (And.intro hz1 hz2)))
  obtain ⟨A', c', e, hsa, _, _, _⟩ := ha
  simp only [Value.slice.injEq] at e
  obtain ⟨rfl, hna, rfl⟩ := e
  obtain ⟨B', d', e, hsb, _, _, _⟩ := hb
  simp only [Value.slice.injEq] at e
  obtain ⟨rfl, hnb, rfl⟩ := e
  have HSA := Lib.hid hsa
  have HSB := Lib.hid hsb
  have HLA : Hid (a.length = nn) := Lib.hid hna.symm
  have HLB : Hid (b.length = mm) := Lib.hid hnb.symm
  have hnn : nn ≤ 2000000 := by omega
  have hmm : mm ≤ 2000000 := by omega
  clear hsa hsb hna hnb hla hlb hi0 hz0 hz1 hz2
  have HO0 : Hid (Only (w.heap.size ≤ ·) w (((w.alloc (.cells #[.slice A nn cc, .slice B mm dd] 35)).alloc (.cells #[.slice none 0 0, .slice none 0 0] 24)).alloc (.cells #[.slice none 0 0, .slice none 0 0] 24))) := Lib.hid ((((Only.refl _ w).alloc (fun _ h => h) _).alloc (fun _ h => h) _).alloc (fun _ h => h) _)
  have HB10 : Hid (Blk (((w.alloc (.cells #[.slice A nn cc, .slice B mm dd] 35)).alloc (.cells #[.slice none 0 0, .slice none 0 0] 24)).alloc (.cells #[.slice none 0 0, .slice none 0 0] 24)) w.heap.size 35 [.slice A nn cc, .slice B mm dd]) := Lib.hid (((Blk.new w _ [.slice A nn cc, .slice B mm dd]).alloc _).alloc _)
  have HB20 : Hid (Blk (((w.alloc (.cells #[.slice A nn cc, .slice B mm dd] 35)).alloc (.cells #[.slice none 0 0, .slice none 0 0] 24)).alloc (.cells #[.slice none 0 0, .slice none 0 0] 24)) (w.heap.size + 1) 24 [.slice none 0 0, .slice none 0 0]) := Lib.hid (by
    have := (Blk.new (w.alloc (.cells #[.slice A nn cc, .slice B mm dd] 35)) 24 [.slice none 0 0, .slice none 0 0]).alloc (.cells #[.slice none 0 0, .slice none 0 0] 24)
    rwa [show (w.alloc (.cells #[.slice A nn cc, .slice B mm dd] 35)).heap.size = w.heap.size + 1 by simp] at this)
  have HB30 : Hid (Blk (((w.alloc (.cells #[.slice A nn cc, .slice B mm dd] 35)).alloc (.cells #[.slice none 0 0, .slice none 0 0] 24)).alloc (.cells #[.slice none 0 0, .slice none 0 0] 24)) (w.heap.size + 2) 24 [.slice none 0 0, .slice none 0 0]) := Lib.hid (by
    have := Blk.new ((w.alloc (.cells #[.slice A nn cc, .slice B mm dd] 35)).alloc (.cells #[.slice none 0 0, .slice none 0 0] 24)) 24 [.slice none 0 0, .slice none 0 0]
    rwa [show ((w.alloc (.cells #[.slice A nn cc, .slice B mm dd] 35)).alloc (.cells #[.slice none 0 0, .slice none 0 0] 24)).heap.size = w.heap.size + 2 by simp] at this)
  obtain ⟨q0, q1⟩ := box_two HB10.out
  go_enter Tryz.func34, Tryz.ntmps34
  go_wp2
  go_loopw [11] (fun i wr => ∃ (k : Nat) (Av : Option Addr) (cv : Nat), k ≤ nn ∧ i = .int .i64 k ∧ Hid (Blk wr w.heap.size 35 [.slice A nn cc, .slice B mm dd]) ∧ Hid (Blk wr (w.heap.size + 1) 24 [.slice none 0 0, .slice none 0 0]) ∧ Hid (Blk wr (w.heap.size + 2) 24 [.slice Av k cv, .slice none 0 0]) ∧ Hid (OwnM wr (w.heap.size + 3) (.slice Av k cv) k (a.take k)) ∧ Hid (Only (w.heap.size ≤ ·) w wr)) (fun i _ => nn - (intOf i).toNat)
  case atStart => exact ⟨0, none, 0, Nat.zero_le _, rfl, HB10, HB20, HB30, Lib.hid ⟨rfl, World.ownsRow_nil _ _ _ _⟩, HO0⟩
  case round =>
    obtain ⟨k, Av, cv, hk, rfl, HB1, HB2, HB3, HW, HO⟩ := hrel
    by_cases hlt : k < nn
    · obtain ⟨g, off, x, rfl, hg, hx, hc1, hc2⟩ := (HSA.out.later HO.out).at_ (k := k) (by rw [HLA.out]; exact hlt)
      have HX := Lib.hid (rc_snoc a k x hx)
      have HTL : Hid ((a.take k).length = k ∧ (a.take (k + 1)).length = k + 1) := Lib.hid ⟨by rw [List.length_take, HLA.out]; omega, by rw [List.length_take, HLA.out]; omega⟩
      obtain ⟨x1, x2⟩ := x
      simp only at hc1 hc2
      clear hx
      have HX1 : Hid (Only (w.heap.size ≤ ·) w ((wr.alloc (.cells #[.int .i64 x1, .int .i64 x2] 54)).alloc (.cells #[.int .i64 x1, .int .i64 x2] 44))) := Lib.hid ((HO.out.alloc (fun _ h => h) _).alloc (fun _ h => h) _)
      have HXW := Lib.hid ((HW.out.alloc (.cells #[.int .i64 x1, .int .i64 x2] 54)).alloc (.cells #[.int .i64 x1, .int .i64 x2] 44))
      have HX3 := Lib.hid ((HB3.out.alloc (.cells #[.int .i64 x1, .int .i64 x2] 54)).alloc (.cells #[.int .i64 x1, .int .i64 x2] 44))
      have HX2 := Lib.hid ((HB2.out.alloc (.cells #[.int .i64 x1, .int .i64 x2] 54)).alloc (.cells #[.int .i64 x1, .int .i64 x2] 44))
      have HX0 := Lib.hid ((HB1.out.alloc (.cells #[.int .i64 x1, .int .i64 x2] 54)).alloc (.cells #[.int .i64 x1, .int .i64 x2] 44))
      have b0 := (HB3.out.alloc (.cells #[.int .i64 x1, .int .i64 x2] 54)).cell 0
      simp only [List.getElem?_cons_zero, List.getElem?_cons_succ] at b0
      have HB : Hid (Blk ((wr.alloc (.cells #[.int .i64 x1, .int .i64 x2] 54)).alloc (.cells #[.int .i64 x1, .int .i64 x2] 44)) (wr.heap.size + 1) 44 [.int .i64 x1, .int .i64 x2]) := by
        have := Blk.new (wr.alloc (.cells #[.int .i64 x1, .int .i64 x2] 54)) 44 [.int .i64 x1, .int .i64 x2]
        exact Lib.hid (by simpa using this)
      go_wp2_with (at_builtin; refine wpList_append_own _ rfl (.tmp 16) (.tmp 18) 22 rfl (w.heap.size + 3) 44 i0 z2 2 16 Tryz.underlying22 HI.out.1 HI.out.2.1 HI.out.2.2.1 HI.out.2.2.2 (by rfl) (by omega) _ k (rc (a.take k)) rfl HXW.out.2 ⟨wr.heap.size + 1, 0, none⟩ 1 1 (rc [(x1, x2)]) rfl rfl (fun j u hu => by rw [Addr.add_lit, HB.out.cell, Nat.zero_add]; exact hu) (rc_one _) (by simp only [maxLen]; omega) (by omega) (by have := HO.out.size; have := HB3.out.lt; simp; omega) ?_; intro v' w' ho' hg' _; obtain ⟨g', cap', rfl⟩ := Joins.ownsRow_form ho' (by omega); have HW' := Lib.hid ho'; have hb3 := HX3.out.grown hg' (own_off_some_m HXW.out (Nat.lt_succ_self _)); have HY3 := Lib.hid hb3; have HY2 := Lib.hid (HX2.out.grown hg' (own_off_some_m HXW.out (by omega))); have HY1 := Lib.hid (HX0.out.grown hg' (own_off_some_m HXW.out (by omega))); have p0 := hb3.cell 0; simp only [List.getElem?_cons_zero, List.getElem?_cons_succ] at p0; have f0 := hb3.frozen 0; have HO' := Lib.hid (HX1.out.grown hg' (fun _ h => h) (fun g hg => Nat.le_trans (by omega) (World.ownsRow.lt HXW.out.2 g hg).1)); clear ho' hg' hb3)
      go_roundw
      case rel =>
        refine ⟨k + 1, _, _, by omega, by go_num, Lib.hid (HY1.out.far (p := ⟨w.heap.size + 2, 0, none⟩) (by show w.heap.size ≠ w.heap.size + 2; omega) _), Lib.hid (HY2.out.far (p := ⟨w.heap.size + 2, 0, none⟩) (by show w.heap.size + 1 ≠ w.heap.size + 2; omega) _), Lib.hid (HY3.out.set_ 0 _), Lib.hid (own_set_far_m (p := ⟨w.heap.size + 2, 0, none⟩) ⟨HTL.out.2.symm, by rw [HX.out]; exact HW'.out⟩ (Nat.lt_succ_self _) _), Lib.hid (HO'.out.setCell (p := ⟨w.heap.size + 2, 0, none⟩) (by show w.heap.size ≤ w.heap.size + 2; omega) _)⟩
      case measure => simp [intOf]; omega
    · obtain rfl : nn = k := by omega
      have hkm : ¬ (nn : Int) < (nn : Int) := by omega
      have HT : Hid (a.take nn = a) := Lib.hid (List.take_of_length_le (by rw [HLA.out]; exact Nat.le_refl _))
      rw [HT.out] at HW
      obtain ⟨q2, q3⟩ := box_two HB1.out
      obtain ⟨b2, hb2⟩ : ∃ b2, b2 = wr.heap.size := ⟨_, rfl⟩
      have HAB : Hid (∀ g, (Value.slice Av nn cv).ownBlock = some g → g < b2) := Lib.hid fun g e => by rw [hb2]; exact (World.ownsRow.lt HW.out.2 g e).2
      have HBB : Hid (w.heap.size + 3 ≤ b2 ∧ b2 ≤ wr.heap.size) := Lib.hid ⟨by rw [hb2]; exact HB3.out.lt, Nat.le_of_eq hb2⟩
      clear hb2
      have HB11 := HB1
      have HB21 := HB2
      have HB31 := HB3
      have HOA1 := HW
      have HO1 := HO
      have HWS := Lib.hid (Only.size HO.out)
      clear HB1 HB2 HB3 HW HO hkm hlt hk q0 q1
      go_wp2
      go_loopw [25] (fun i wr => ∃ (k : Nat) (Au : Option Addr) (cu : Nat), k ≤ mm ∧ i = .int .i64 k ∧ Hid (Blk wr w.heap.size 35 [.slice A nn cc, .slice B mm dd]) ∧ Hid (Blk wr (w.heap.size + 1) 24 [.slice none 0 0, .slice none 0 0]) ∧ Hid (Blk wr (w.heap.size + 2) 24 [.slice Av nn cv, .slice Au k cu]) ∧ Hid (OwnM wr b2 (.slice Au k cu) k (b.take k)) ∧ Hid (OwnM wr (w.heap.size + 3) (.slice Av nn cv) nn a) ∧ Hid (b2 ≤ wr.heap.size) ∧ Hid (Only (w.heap.size ≤ ·) w wr)) (fun i _ => mm - (intOf i).toNat)
      case atStart => exact ⟨0, none, 0, Nat.zero_le _, rfl, HB11, HB21, HB31, Lib.hid ⟨rfl, World.ownsRow_nil _ _ _ _⟩, HOA1, Lib.hid HBB.out.2, HO1⟩
      case round =>
        obtain ⟨k, Au, cu, hk, rfl, HB1, HB2, HB3, HW, HOA, HBN, HO⟩ := hrel
        by_cases hlt : k < mm
        · obtain ⟨g, off, x, rfl, hg, hx, hc1, hc2⟩ := (HSB.out.later HO.out).at_ (k := k) (by rw [HLB.out]; exact hlt)
          have HX := Lib.hid (rc_snoc b k x hx)
          have HTL : Hid ((b.take k).length = k ∧ (b.take (k + 1)).length = k + 1) := Lib.hid ⟨by rw [List.length_take, HLB.out]; omega, by rw [List.length_take, HLB.out]; omega⟩
          obtain ⟨x1, x2⟩ := x
          simp only at hc1 hc2
          clear hx
          have HX1 : Hid (Only (w.heap.size ≤ ·) w ((wr.alloc (.cells #[.int .i64 x1, .int .i64 x2] 54)).alloc (.cells #[.int .i64 x1, .int .i64 x2] 44))) := Lib.hid ((HO.out.alloc (fun _ h => h) _).alloc (fun _ h => h) _)
          have HXW := Lib.hid ((HW.out.alloc (.cells #[.int .i64 x1, .int .i64 x2] 54)).alloc (.cells #[.int .i64 x1, .int .i64 x2] 44))
          have HX3 := Lib.hid ((HB3.out.alloc (.cells #[.int .i64 x1, .int .i64 x2] 54)).alloc (.cells #[.int .i64 x1, .int .i64 x2] 44))
          have HX2 := Lib.hid ((HB2.out.alloc (.cells #[.int .i64 x1, .int .i64 x2] 54)).alloc (.cells #[.int .i64 x1, .int .i64 x2] 44))
          have HX0 := Lib.hid ((HB1.out.alloc (.cells #[.int .i64 x1, .int .i64 x2] 54)).alloc (.cells #[.int .i64 x1, .int .i64 x2] 44))
          have b0 := (HB3.out.alloc (.cells #[.int .i64 x1, .int .i64 x2] 54)).cell 1
          simp only [List.getElem?_cons_zero, List.getElem?_cons_succ] at b0
          have HB : Hid (Blk ((wr.alloc (.cells #[.int .i64 x1, .int .i64 x2] 54)).alloc (.cells #[.int .i64 x1, .int .i64 x2] 44)) (wr.heap.size + 1) 44 [.int .i64 x1, .int .i64 x2]) := by
            have := Blk.new (wr.alloc (.cells #[.int .i64 x1, .int .i64 x2] 54)) 44 [.int .i64 x1, .int .i64 x2]
            exact Lib.hid (by simpa using this)
          have HXA := Lib.hid ((HOA.out.alloc (.cells #[.int .i64 x1, .int .i64 x2] 54)).alloc (.cells #[.int .i64 x1, .int .i64 x2] 44))
          go_wp2_with (at_builtin; refine wpList_append_own _ rfl (.tmp 30) (.tmp 32) 22 rfl b2 44 i0 z2 2 16 Tryz.underlying22 HI.out.1 HI.out.2.1 HI.out.2.2.1 HI.out.2.2.2 (by rfl) (by omega) _ k (rc (b.take k)) rfl HXW.out.2 ⟨wr.heap.size + 1, 0, none⟩ 1 1 (rc [(x1, x2)]) rfl rfl (fun j u hu => by rw [Addr.add_lit, HB.out.cell, Nat.zero_add]; exact hu) (rc_one _) (by simp only [maxLen]; omega) (by omega) (by have := HBN.out; simp; omega) ?_; intro v' w' ho' hg' _; obtain ⟨g', cap', rfl⟩ := Joins.ownsRow_form ho' (by omega); have HW' := Lib.hid ho'; have hb3 := HX3.out.grown hg' (own_off_some_m HXW.out (by have := HBB.out; show w.heap.size + 2 < b2; omega)); have HY3 := Lib.hid hb3; have HY2 := Lib.hid (HX2.out.grown hg' (own_off_some_m HXW.out (by have := HBB.out; omega))); have HY1 := Lib.hid (HX0.out.grown hg' (own_off_some_m HXW.out (by have := HBB.out; omega))); have HA2 := Lib.hid (own_kept_m HXA.out hg' (own_two_m HAB.out HXW.out)); have p0 := hb3.cell 1; simp only [List.getElem?_cons_zero, List.getElem?_cons_succ] at p0; have f0 := hb3.frozen 1; have HBS : Hid (b2 ≤ w'.heap.size) := Lib.hid (Nat.le_trans (by have := HBN.out; simp; omega) hg'.size); have HO' := Lib.hid (HX1.out.grown hg' (fun _ h => h) (fun g hg => Nat.le_trans (by have := HBB.out; omega) (World.ownsRow.lt HXW.out.2 g hg).1)); clear ho' hg' hb3)
          go_roundw
          case rel =>
            refine ⟨k + 1, _, _, by omega, by go_num, Lib.hid (HY1.out.far (p := ⟨w.heap.size + 2, 1, none⟩) (by show w.heap.size ≠ w.heap.size + 2; omega) _), Lib.hid (HY2.out.far (p := ⟨w.heap.size + 2, 1, none⟩) (by show w.heap.size + 1 ≠ w.heap.size + 2; omega) _), Lib.hid (HY3.out.set_ 1 _), Lib.hid (own_set_far_m (p := ⟨w.heap.size + 2, 1, none⟩) ⟨HTL.out.2.symm, by rw [HX.out]; exact HW'.out⟩ (by have := HBB.out; show w.heap.size + 2 < b2; omega) _), Lib.hid (own_set_far_m (p := ⟨w.heap.size + 2, 1, none⟩) HA2.out (Nat.lt_succ_self _) _), Lib.hid (by have := HBS.out; simp [World.setCell]; omega), Lib.hid (HO'.out.setCell (p := ⟨w.heap.size + 2, 1, none⟩) (by show w.heap.size ≤ w.heap.size + 2; omega) _)⟩
          case measure => simp [intOf]; omega
        · obtain rfl : mm = k := by omega
          have hkm : ¬ (mm : Int) < (mm : Int) := by omega
          have HT : Hid (b.take mm = b) := Lib.hid (List.take_of_length_le (by rw [HLB.out]; exact Nat.le_refl _))
          rw [HT.out] at HW
          clear q2 q3
          obtain ⟨p0, p1⟩ := box_two HB3.out
          obtain ⟨s0, s1⟩ := box_two HB2.out
          have g0 := HB2.out.frozen 0
          have g1 := HB2.out.frozen 1
          go_wp2
          have HBF : Blk ((wr.setCell ⟨w.heap.size + 1, 0, none⟩ (.slice Av nn cv)).setCell ⟨w.heap.size + 1, 1, none⟩ (.slice Au mm cu)) (w.heap.size + 1) 24 [.slice Av nn cv, .slice Au mm cu] := (HB2.out.set_ 0 (.slice Av nn cv)).set_ 1 (.slice Au mm cu)
          have hO4 : Only (fun k => k = w.heap.size + 1) wr ((wr.setCell ⟨w.heap.size + 1, 0, none⟩ (.slice Av nn cv)).setCell ⟨w.heap.size + 1, 1, none⟩ (.slice Au mm cu)) := ((Only.refl (fun k => k = w.heap.size + 1) wr).setCell (p := ⟨w.heap.size + 1, 0, none⟩) rfl _).setCell (p := ⟨w.heap.size + 1, 1, none⟩) rfl _
          exact bodyPost_ret (v := .agg #[.slice Av nn cv, .slice Au mm cu]) (results_cell rfl rfl (load_st HBF)) rfl ⟨Av, nn, cv, Au, mm, cu, rfl, HOA.out.row.past hO4 (fun k hk => .inr (.inl (own_off_m HOA.out (by omega)))), HW.out.row.past hO4 (fun k hk => .inr (.inl (own_off_m HW.out (by have := HBB.out; omega)))), HO.out.trans (Only.mono hO4 fun k hk => by rw [hk]; exact Nat.le_succ _)⟩
end Go.Proofs.YtmadlckladohbaaGreat

/-
  The document's Pages, Same of states.
-/
set_option linter.unusedVariables false
namespace Go.Proofs.YtmadlckladohbaaGreat
open Go.RowKit Go.Shelf

set_option maxRecDepth 100000 in
set_option maxHeartbeats 6400000 in
theorem r10Pages_c (w : World) (v : Value) (l : List R) (h : Row w v l) (hr : right l = true) : Calls Tryz.prog 29 #[v] w (MakesI w (pagesOf l)) := by
  obtain ⟨i0, hi0, hz0, hz1, hz2⟩ := info_parts infoI
  have HI := Lib.hid (And.intro hi0 (And.intro hz0 (And.intro hz1 hz2)))
  clear hi0 hz0 hz1 hz2
  obtain ⟨A, c, rfl, hs, _, hnc, hc⟩ := h
  obtain ⟨n, hn⟩ : ∃ n, n = l.length := ⟨_, rfl⟩
  have hn3 : n ≤ 32768 := by rw [hn]; exact right_length hr
  rw [← hn] at hnc ⊢
  have HN := Lib.hid hn
  have HS := Lib.hid hs
  have HR := Lib.hid hr
  clear hn hs hr hnc hc
  go_enter Tryz.func29, Tryz.ntmps29
  go_wp2
  go_loopg [3, 4] n (fun gk0 s i wr => ∃ (k P : Nat) (u : Value), gk0 = n - k ∧ k ≤ n ∧ P ≤ k * 32768 ∧ s = u ∧ i = .int .i64 (k : Int) ∧ Hid (P = (pagesOf (l.take k)).length) ∧ Hid (wr.ownsRow w.heap.size 3 1 u P (ic (pagesOf (l.take k)))) ∧ Hid (Only (w.heap.size ≤ ·) w wr))
  case atStart => exact ⟨0, 0, _, rfl, Nat.zero_le _, Nat.le_refl _, rfl, rfl, Lib.hid rfl, Lib.hid (World.ownsRow_nil _ _ _ _), Lib.hid (Only.refl _ w)⟩
  case round =>
    obtain ⟨k, P, u, rfl, hk, hPk, rfl, rfl, HP, HW, HO⟩ := hrel
    by_cases hlt : k < n
    · obtain ⟨g, off, x, rfl, hg, hx, hc1, hc2⟩ := (HS.out.later HO.out).at_ (k := k) (by rw [← HN.out]; exact hlt)
      have HX := Lib.hid (pagesOf_snoc hx)
      have hmx := (may_iff x).1 (right_may HR.out x (List.mem_of_getElem? hx))
      have HGB := Lib.hid (Nat.lt_of_lt_of_le hg (Nat.le_refl _))
      obtain ⟨x1, x2⟩ := x
      simp only at hmx HX hc1 hc2
      obtain ⟨m, rfl⟩ : ∃ m : Nat, x2 = m := ⟨x2.toNat, by omega⟩
      rw [Int.toNat_natCast] at HX
      have HXX := Lib.hid hx
      clear hx hc1 hc2 hg
      have hlt' : (k : Int) < (n : Int) := by omega
      go_wp2
      go_loopg [3, 5] m (fun gk1 s i wr => ∃ (j Q : Nat) (u : Value), gk1 = m - j ∧ j ≤ m ∧ Q ≤ 1073774592 ∧ s = u ∧ i = .int .i64 (j : Int) ∧ Hid (Q = P + j) ∧ Hid (wr.ownsRow w.heap.size 3 1 u Q (ic (pagesOf (l.take k) ++ runPages (x1, (m : Int)) j))) ∧ Hid (Only (w.heap.size ≤ ·) w wr))
      case atStart => exact ⟨0, P, _, rfl, Nat.zero_le _, by omega, rfl, rfl, Lib.hid rfl, Lib.hid (by simpa [runPages] using HW.out), HO⟩
      case round =>
        obtain ⟨j, Q, u2, rfl, hj, hQ, rfl, rfl, HQ, HW2, HO2⟩ := hrel
        obtain ⟨g5, off5, x5, e5, hg5, hx5, hc1, hc2⟩ := (HS.out.later HO2.out).at_ (k := k) (by rw [← HN.out]; exact hlt)
        rw [HXX.out] at hx5
        obtain rfl : (x1, (m : Int)) = x5 := by injection hx5
        simp only [Option.some.injEq, Addr.mk.injEq, and_true] at e5
        obtain ⟨rfl, rfl⟩ := e5
        simp only at hc1 hc2
        clear hx5 hg5
        by_cases hjm : j < m
        · have hjm' : (j : Int) < (m : Int) := by omega
          have HBL : Hid (Blk (wr.alloc (.cells #[.int .i64 (x1 + (j : Int))] 3)) wr.heap.size 3 [.int .i64 (x1 + (j : Int))]) := Blk.new wr _ _
          have HS2 := Lib.hid (runPages_succ (x1, (m : Int)) j)
          have hQ2 : Q ≤ 1073774591 := by
            have := HQ.out
            have h1 : k * 32768 ≤ 32767 * 32768 := Nat.mul_le_mul_right _ (by omega)
            omega
          go_wp2_with (at_builtin; refine wpList_append_own _ rfl (.tmp 21) (.tmp 29) 37 rfl w.heap.size 3 i0 z0 1 8 Tryz.underlying37 HI.out.1 HI.out.2.1 HI.out.2.2.1 HI.out.2.2.2 (by rfl) (by omega) _ Q _ rfl (World.ownsRow.alloc HW2.out _) ⟨wr.heap.size, 0, none⟩ 1 1 (ic [x1 + (j : Int)]) rfl rfl (fun j u hu => by rw [Addr.add_lit, HBL.out.cell, Nat.zero_add]; exact hu) (ic_one _) (by simp only [maxLen]; omega) (by omega) (by have := HO2.out.size; simp; omega) ?_; intro v' w' ho' hg' _; have HN3 := Lib.hid ho'; have HO' := Lib.hid ((HO2.out.alloc (fun _ h => h) (.cells #[.int .i64 (x1 + (j : Int))] 3)).grown hg' (fun _ h => h) (fun g hg => (World.ownsRow.lt HW2.out g hg).1)); clear ho' hg')
          go_roundg (m - (j + 1))
          case measure => omega
          case rel => exact ⟨j + 1, Q + 1, _, rfl, by omega, by omega, rfl, by go_num, Lib.hid (by have := HQ.out; omega), Lib.hid (by rw [HS2.out, ← List.append_assoc]; simpa [ic] using HN3.out), HO'⟩
        · obtain rfl : j = m := by omega
          have hkm : ¬ (j : Int) < (j : Int) := by omega
          go_wp2
          go_roundg (n - (k + 1))
          case measure => omega
          case rel => exact ⟨k + 1, Q, _, rfl, by omega, by have := HQ.out; omega, rfl, by go_num, Lib.hid (by rw [HX.out, List.length_append, ← HP.out, HQ.out]; simp [runPages]), Lib.hid (by rw [HX.out]; exact HW2.out), HO2⟩
    · obtain rfl : k = n := by omega
      have hkm : ¬ (k : Int) < (k : Int) := by omega
      have HT : Hid (l.take k = l) := Lib.hid (List.take_of_length_le (by rw [← HN.out]; exact Nat.le_refl _))
      rw [HT.out] at HP HW
      go_wp2
      go_ret
      exact ⟨_, rfl, by rw [← HP.out]; exact HW.out, HO.out⟩

set_option maxRecDepth 100000 in
set_option maxHeartbeats 6400000 in
/-- Two states of the document's, that are the same. -/
theorem r10Same_t (w : World) (A B C D : Option Addr) (n c m d n' c' m' d' : Nat) (a b : List R) (ha : Row w (.slice A n c) a) (hb : Row w (.slice B m d) b) (ha' : Row w (.slice C n' c') a) (hb' : Row w (.slice D m' d') b) :
    Calls Tryz.prog 33 #[.agg #[.slice A n c, .slice B m d], .agg #[.slice C n' c', .slice D m' d']] w (Told w (.bool true)) := by
  obtain ⟨w2, hw2⟩ : ∃ w2, w2 = (w.alloc (.cells #[.slice A n c, .slice B m d] 24)).alloc (.cells #[.slice C n' c', .slice D m' d'] 24) := ⟨_, rfl⟩
  obtain ⟨b1, hb1⟩ : ∃ b1, b1 = w.heap.size := ⟨_, rfl⟩
  obtain ⟨b2, hb2⟩ : ∃ b2, b2 = w.heap.size + 1 := ⟨_, rfl⟩
  have HB1 : Hid (Blk w2 b1 24 [.slice A n c, .slice B m d]) := Lib.hid (by rw [hw2, hb1]; exact (Blk.new w _ [.slice A n c, .slice B m d]).alloc _)
  have HB2 : Hid (Blk w2 b2 24 [.slice C n' c', .slice D m' d']) := Lib.hid (by
    rw [hw2, hb2]
    have := Blk.new (w.alloc (.cells #[.slice A n c, .slice B m d] 24)) 24 [.slice C n' c', .slice D m' d']
    rwa [show (w.alloc (.cells #[.slice A n c, .slice B m d] 24)).heap.size = w.heap.size + 1 by simp] at this)
  have ho2 : Only (w.heap.size ≤ ·) w w2 := by rw [hw2]; exact ((Only.refl _ w).alloc (fun _ h => h) _).alloc (fun _ h => h) _
  have HO := Lib.hid ho2
  have HA := Lib.hid (ha.later ho2)
  have HB := Lib.hid (hb.later ho2)
  have HC := Lib.hid (ha'.later ho2)
  have HD := Lib.hid (hb'.later ho2)
  have HEQ : Hid (w2 = (w.alloc (.cells #[.slice A n c, .slice B m d] 24)).alloc (.cells #[.slice C n' c', .slice D m' d'] 24) ∧ b1 = w.heap.size ∧ b2 = w.heap.size + 1) := Lib.hid ⟨hw2, hb1, hb2⟩
  clear ha hb ha' hb' ho2 hw2 hb1 hb2
  go_enter Tryz.func33, Tryz.ntmps33
  go_upto_region 1 with (fail)
  rw [← HEQ.out.1, ← HEQ.out.2.2, ← HEQ.out.2.1]
  obtain ⟨q0, q1⟩ := box_two HB1.out
  obtain ⟨r0, r1⟩ := box_two HB2.out
  go_wp2_with (first
    | (go_at_call 30; (with_reducible refine (same_t HA.out HC.out rfl).mono ?_); rintro e w5 ⟨rfl, ho5⟩; obtain ⟨q50, q51⟩ := box_two (HB1.out.later ho5); obtain ⟨r50, r51⟩ := box_two (HB2.out.later ho5); have HB5 := Lib.hid (HB.out.later ho5); have HD5 := Lib.hid (HD.out.later ho5); have HO5 := Lib.hid (on_new HO.out ho5); clear ho5)
    | (go_at_call 30; (with_reducible refine (same_t HB5.out HD5.out rfl).mono ?_); rintro e w6 ⟨rfl, ho6⟩; have HO6 := Lib.hid (on_new HO5.out ho6); clear ho6))
  go_ret
  exact ⟨rfl, HO6.out⟩
end Go.Proofs.YtmadlckladohbaaGreat

/-
  The law's stands.
-/
set_option linter.unusedVariables false
namespace Go.Proofs.YtmadlckladohbaaGreat
open Go.RowKit Go.Shelf

theorem whoB_iff {t x : Int} : whoB t x = true ↔ x = t ∨ (t = -3 ∧ 0 ≤ x) := by simp [whoB]
theorem staB_iff {t x : Int} : staB t x = true ↔ -2 < x ∧ (x ≠ t ∨ t < 0) := by simp [staB]
section
variable {S : PS} {l : List Int}
theorem bit_free (h : WhoS S l) (hok : S.Ok) (p : Int) : Bit (whoF l (whoB (-1))) l.length p ↔ S.F p := whoF_bit (S := S.F) (fun k x hx => by
  rw [whoB_iff, ← Who1.free hok (h.2 k x hx)]
  omega) (fun p hp => by have := hok.free p hp; have := h.1; omega) p
theorem bit_all (h : WhoS S l) (hok : S.Ok) (p : Int) : Bit (whoF l (whoB (-3))) l.length p ↔ ∃ u, S.H u p := whoF_bit (S := fun p => ∃ u, S.H u p) (fun k x hx => by
  show _ ↔ ∃ u, S.H u (k : Int)
  rw [whoB_iff, ← Who1.some hok (h.2 k x hx)]
  have hw := h.2 k x hx
  constructor
  · rintro (h1 | h1)
    · rcases hw with ⟨h2, _⟩ | ⟨h2, _⟩ | ⟨h2, _⟩ <;> omega
    · exact h1.2
  · exact fun h1 => .inr ⟨rfl, h1⟩) (fun p ⟨u, hp⟩ => by have := hok.held u p hp; have := h.1; omega) p
theorem bit_held (h : WhoS S l) (hok : S.Ok) {t : Int} (ht : 0 ≤ t) (p : Int) : Bit (whoF l (whoB t)) l.length p ↔ S.H t p := whoF_bit (S := S.H t) (fun k x hx => by
  rw [whoB_iff, ← Who1.held hok (h.2 k x hx) ht]
  omega) (fun p hp => by have := hok.held t p hp; have := h.1; omega) p
theorem bit_state (h : WhoS S l) (hok : S.Ok) (t : Int) (p : Int) : Bit (whoF l (staB t)) l.length p ↔ S.F p ∨ ∃ u, u ≠ t ∧ S.H u p := whoF_bit (S := fun p => S.F p ∨ ∃ u, u ≠ t ∧ S.H u p) (fun k x hx => by
  show _ ↔ (S.F (k : Int) ∨ ∃ u, u ≠ t ∧ S.H u (k : Int))
  rw [staB_iff]
  rcases h.2 k x hx with ⟨h1, h2⟩ | ⟨h1, h2⟩ | ⟨h1, h2, h3⟩
  · exact ⟨fun _ => .inl h2, fun _ => by omega⟩
  · constructor
    · rintro ⟨_, h3⟩
      exact .inr ⟨x, by omega, h2⟩
    · rintro (h3 | ⟨u, h3, h4⟩)
      · exact absurd h3 (hok.apart _ _ h2)
      · have := hok.one _ _ _ h2 h4
        omega
  · constructor
    · rintro ⟨h4, _⟩
      omega
    · rintro (h4 | ⟨u, _, h4⟩)
      · exact absurd h4 h2
      · exact absurd h4 (h3 u)) (fun p hp => by
    have hl := h.1
    rcases hp with hp | ⟨u, _, hp⟩
    · have := hok.free p hp; omega
    · have := hok.held u p hp; omega) p
end

set_option maxRecDepth 100000 in
set_option maxHeartbeats 12800000 in
theorem stands_t (w : World) (pb mb N : Nat) (S : PS) (v : Value) (lim t : Int) (l : List Int) (h : At w pb mb N S) (hok : S.Ok) (hw : Wh w v l) (hs : WhoS S l) (ht : -9223372036854775808 ≤ t ∧ t ≤ 9223372036854775807) :
    Calls Tryz.prog 9 #[.pointer (some ⟨pb, 0, none⟩), .agg #[v, .int .i64 lim], .int .i64 t] w (Told w (.bool true)) := by
  obtain ⟨A, c, rfl, hA, hsrc⟩ := hw
  have hW0 : Wh w (.slice A l.length c) l := ⟨A, c, rfl, hA, hsrc⟩
  have HPL := hs.1
  have HLP : Hid (l.length ≤ 16384 ∧ 0 < l.length) := Lib.hid (by have := hok.lo; have := hok.hi; have := hok.top; omega)
  have HF1 := Lib.hid (bit_free hs hok)
  have HF3 := Lib.hid (bit_all hs hok)
  have HSA := Lib.hid (bit_state hs hok t)
  have HSB : Hid (0 ≤ t → ∀ p, Bit (whoF l (whoB t)) l.length p ↔ S.H t p) := Lib.hid fun h0 => bit_held hs hok h0
  have HS0 : Hid (t < 0 → ∀ p, ¬ S.H t p) := Lib.hid fun h0 p hp => by have := (hok.held t p hp).1; omega
  have HOK := Lib.hid hok
  have HT := Lib.hid ht
  obtain ⟨n, hn⟩ : ∃ n, n = l.length := ⟨_, rfl⟩
  rw [← hn] at hW0 HPL ⊢
  have HPG : Hid ((n : Int) = S.pages) := Lib.hid HPL
  obtain ⟨w2, hw2⟩ : ∃ w2, w2 = w.alloc (.cells #[.slice A n c, .int .i64 lim] 39) := ⟨_, rfl⟩
  obtain ⟨b1, hb1⟩ : ∃ b1, b1 = w.heap.size := ⟨_, rfl⟩
  have HB1 : Hid (Blk w2 b1 39 [.slice A n c, .int .i64 lim]) := Lib.hid (by rw [hw2, hb1]; exact Blk.new w _ [.slice A n c, .int .i64 lim])
  have ho2 : Only (w.heap.size ≤ ·) w w2 := by rw [hw2]; exact (Only.refl _ w).alloc (fun _ h => h) _
  have HO := Lib.hid ho2
  have HP := Lib.hid (h.later ho2)
  have HW := Lib.hid (hW0.later ho2)
  have HEQ : Hid (w2 = w.alloc (.cells #[.slice A n c, .int .i64 lim] 39) ∧ b1 = w.heap.size) := Lib.hid ⟨hw2, hb1⟩
  clear h hok hs ht hA hsrc hW0 HPL hn hw2 hb1 ho2
  go_enter Tryz.func9, Tryz.ntmps9
  go_upto_region 1 with (fail)
  rw [← HEQ.out.1, ← HEQ.out.2]
  replace HP := Lib.hid (HP.out.later (Only.refl _ _).drew)
  replace HW := Lib.hid (HW.out.later (Only.refl _ _).drew)
  replace HB1 := Lib.hid HB1.out.drew
  replace HO := Lib.hid HO.out.drew
  refine wp_region_list (B := [false, false, false, false, false, false, false, false, false, false, false, false, false, false, false, false, false, false, false, false, false, false, false, false, false, false, false, false, false, false, false, false, false]) (S := (fun W => W.cell? ⟨b1, 0, none⟩ = some (.slice A n c) ∧ W.cell? ⟨b1, 1, none⟩ = some (.int .i64 lim))) (by kernel_rfl) (by kernel_rfl) (by kernel_rfl) (box_two HB1.out) (fun hsel hHeld => ?_)
  generalize hwz : World.drew _ = wz at HP HB1 HO HW hHeld ⊢
  clear hwz
  refine oneA 0 7 hsel (h := ?_)
  simp only [Act.put, List.setIfInBounds_toArray, List.set_cons_zero, List.set_cons_succ]
  refine oneA 2 9 hsel (h := ?_)
  simp only [Act.put, List.setIfInBounds_toArray, List.set_cons_zero, List.set_cons_succ]
  refine oneA 3 10 hsel (h := ?_)
  simp only [Act.put, List.setIfInBounds_toArray, List.set_cons_zero, List.set_cons_succ]
  refine oneA 4 11 hsel (h := ?_)
  simp only [Act.put, List.setIfInBounds_toArray, List.set_cons_zero, List.set_cons_succ]
  refine wpAnyL_ready (rs := [1]) (by kernel_rfl) (by kernel_rfl) (by simp) ?_
  refine AllReadyL.cons (o := ?_) ?_ (fun K hK => ?_) AllReadyL.nil
  case refine_2 => (simp only [List.getElem?_cons_succ, List.getElem?_cons_zero]; rfl)
  go_simp
  (go_at_call 20; (with_reducible refine (pages_b HP.out HPG.out).mono ?_); rintro e w19 ⟨rfl, ho⟩; (try replace HB1 := Lib.hid (HB1.out.later ho)); (try replace HP := Lib.hid (HP.out.later ho)); (try replace HW := Lib.hid (HW.out.later ho)); (try replace HO := Lib.hid (on_new HO.out ho)); (try replace HR1 := Lib.hid (HR1.out.later ho)); (try replace HR2 := Lib.hid (HR2.out.later ho)); (try replace HR3 := Lib.hid (HR3.out.later ho)); (try replace HR4 := Lib.hid (HR4.out.later ho)); (try replace HR5 := Lib.hid (HR5.out.later ho)); (try replace HR6 := Lib.hid (HR6.out.later ho)); (try replace HR7 := Lib.hid (HR7.out.later ho)); (try replace HR8 := Lib.hid (HR8.out.later ho)); (try replace HR9 := Lib.hid (HR9.out.later ho)); (try replace HR10 := Lib.hid (HR10.out.later ho)); (try replace HR11 := Lib.hid (HR11.out.later ho)); (try replace HR12 := Lib.hid (HR12.out.later ho)); clear ho)
  go_wp2_with (fail)
  clear hHeld
  refine hK.out _ _ (box_two HB1.out) (fun hHeld => ?_)
  clear hK K
  try simp only [Act.put, List.setIfInBounds_toArray, List.set_cons_zero, List.set_cons_succ]
  refine oneA 5 12 hsel (h := ?_)
  simp only [Act.put, List.setIfInBounds_toArray, List.set_cons_zero, List.set_cons_succ]
  refine oneA 6 13 hsel (h := ?_)
  simp only [Act.put, List.setIfInBounds_toArray, List.set_cons_zero, List.set_cons_succ]
  refine oneA 7 14 hsel (h := ?_)
  simp only [Act.put, List.setIfInBounds_toArray, List.set_cons_zero, List.set_cons_succ]
  refine oneA 10 17 hsel (h := ?_)
  simp only [Act.put, List.setIfInBounds_toArray, List.set_cons_zero, List.set_cons_succ]
  refine wpAnyL_ready (rs := [8]) (by kernel_rfl) (by kernel_rfl) (by simp) ?_
  refine AllReadyL.cons (o := ?_) ?_ (fun K hK => ?_) AllReadyL.nil
  case refine_2 => (simp only [List.getElem?_cons_succ, List.getElem?_cons_zero]; rfl)
  go_simp
  (go_at_call 22; (with_reducible refine (Free_b HP.out).mono ?_); rintro e w20 ⟨⟨A1, n1, c1, u1, rfl, hv, hu⟩, ho⟩; (try replace HB1 := Lib.hid (HB1.out.later ho)); (try replace HP := Lib.hid (HP.out.later ho)); (try replace HW := Lib.hid (HW.out.later ho)); (try replace HO := Lib.hid (on_new HO.out ho)); (try replace HR1 := Lib.hid (HR1.out.later ho)); (try replace HR2 := Lib.hid (HR2.out.later ho)); (try replace HR3 := Lib.hid (HR3.out.later ho)); (try replace HR4 := Lib.hid (HR4.out.later ho)); (try replace HR5 := Lib.hid (HR5.out.later ho)); (try replace HR6 := Lib.hid (HR6.out.later ho)); (try replace HR7 := Lib.hid (HR7.out.later ho)); (try replace HR8 := Lib.hid (HR8.out.later ho)); (try replace HR9 := Lib.hid (HR9.out.later ho)); (try replace HR10 := Lib.hid (HR10.out.later ho)); (try replace HR11 := Lib.hid (HR11.out.later ho)); (try replace HR12 := Lib.hid (HR12.out.later ho)); have HR1 := Lib.hid hv.row; have HU1 := Lib.hid hu; have HL1 := Lib.hid (row_len hu); clear hv hu ho)
  go_wp2_with (fail)
  clear hHeld
  refine hK.out _ _ (box_two HB1.out) (fun hHeld => ?_)
  clear hK K
  try simp only [Act.put, List.setIfInBounds_toArray, List.set_cons_zero, List.set_cons_succ]
  refine wpAnyL_ready (rs := [9]) (by kernel_rfl) (by kernel_rfl) (by simp) ?_
  refine AllReadyL.cons (o := ?_) ?_ (fun K hK => ?_) AllReadyL.nil
  case refine_2 => (simp only [List.getElem?_cons_succ, List.getElem?_cons_zero]; rfl)
  go_simp
  (go_at_call 31; (with_reducible refine (old_b HR1.out HL1.out).mono ?_); rintro e w21 ⟨⟨A2, n2, c2, rfl, hv⟩, ho⟩; (try replace HB1 := Lib.hid (HB1.out.later ho)); (try replace HP := Lib.hid (HP.out.later ho)); (try replace HW := Lib.hid (HW.out.later ho)); (try replace HO := Lib.hid (on_new HO.out ho)); (try replace HR1 := Lib.hid (HR1.out.later ho)); (try replace HR2 := Lib.hid (HR2.out.later ho)); (try replace HR3 := Lib.hid (HR3.out.later ho)); (try replace HR4 := Lib.hid (HR4.out.later ho)); (try replace HR5 := Lib.hid (HR5.out.later ho)); (try replace HR6 := Lib.hid (HR6.out.later ho)); (try replace HR7 := Lib.hid (HR7.out.later ho)); (try replace HR8 := Lib.hid (HR8.out.later ho)); (try replace HR9 := Lib.hid (HR9.out.later ho)); (try replace HR10 := Lib.hid (HR10.out.later ho)); (try replace HR11 := Lib.hid (HR11.out.later ho)); (try replace HR12 := Lib.hid (HR12.out.later ho)); have HR2 := Lib.hid hv; clear hv ho)
  go_wp2_with (fail)
  clear hHeld
  refine hK.out _ _ (box_two HB1.out) (fun hHeld => ?_)
  clear hK K
  try simp only [Act.put, List.setIfInBounds_toArray, List.set_cons_zero, List.set_cons_succ]
  refine wpAnyL_ready (rs := [11]) (by kernel_rfl) (by kernel_rfl) (by simp) ?_
  refine AllReadyL.cons (o := ?_) ?_ (fun K hK => ?_) AllReadyL.nil
  case refine_2 => (simp only [List.getElem?_cons_succ, List.getElem?_cons_zero]; rfl)
  go_simp
  (go_at_call 32; (with_reducible refine (rruns_c _ _ lim (-1) l S.F HW.out HLP.out.1 HLP.out.2 HF1.out).mono ?_); rintro e w22 ⟨⟨A3, n3, c3, u3, rfl, hv, hu⟩, ho⟩; (try replace HB1 := Lib.hid (HB1.out.later ho)); (try replace HP := Lib.hid (HP.out.later ho)); (try replace HW := Lib.hid (HW.out.later ho)); (try replace HO := Lib.hid (on_new HO.out ho)); (try replace HR1 := Lib.hid (HR1.out.later ho)); (try replace HR2 := Lib.hid (HR2.out.later ho)); (try replace HR3 := Lib.hid (HR3.out.later ho)); (try replace HR4 := Lib.hid (HR4.out.later ho)); (try replace HR5 := Lib.hid (HR5.out.later ho)); (try replace HR6 := Lib.hid (HR6.out.later ho)); (try replace HR7 := Lib.hid (HR7.out.later ho)); (try replace HR8 := Lib.hid (HR8.out.later ho)); (try replace HR9 := Lib.hid (HR9.out.later ho)); (try replace HR10 := Lib.hid (HR10.out.later ho)); (try replace HR11 := Lib.hid (HR11.out.later ho)); (try replace HR12 := Lib.hid (HR12.out.later ho)); have HR3 := Lib.hid hv; have HE3 := Lib.hid (HU1.out.eq hu); clear hv hu ho)
  go_wp2_with (fail)
  clear hHeld
  refine hK.out _ _ (box_two HB1.out) (fun hHeld => ?_)
  clear hK K
  try simp only [Act.put, List.setIfInBounds_toArray, List.set_cons_zero, List.set_cons_succ]
  refine wpAnyL_ready (rs := [12]) (by kernel_rfl) (by kernel_rfl) (by simp) ?_
  refine AllReadyL.cons (o := ?_) ?_ (fun K hK => ?_) AllReadyL.nil
  case refine_2 => (simp only [List.getElem?_cons_succ, List.getElem?_cons_zero]; rfl)
  go_simp
  (go_at_call 30; (with_reducible refine (same_t HR2.out HR3.out HE3.out).mono ?_); rintro e w23 ⟨rfl, ho⟩; (try replace HB1 := Lib.hid (HB1.out.later ho)); (try replace HP := Lib.hid (HP.out.later ho)); (try replace HW := Lib.hid (HW.out.later ho)); (try replace HO := Lib.hid (on_new HO.out ho)); (try replace HR1 := Lib.hid (HR1.out.later ho)); (try replace HR2 := Lib.hid (HR2.out.later ho)); (try replace HR3 := Lib.hid (HR3.out.later ho)); (try replace HR4 := Lib.hid (HR4.out.later ho)); (try replace HR5 := Lib.hid (HR5.out.later ho)); (try replace HR6 := Lib.hid (HR6.out.later ho)); (try replace HR7 := Lib.hid (HR7.out.later ho)); (try replace HR8 := Lib.hid (HR8.out.later ho)); (try replace HR9 := Lib.hid (HR9.out.later ho)); (try replace HR10 := Lib.hid (HR10.out.later ho)); (try replace HR11 := Lib.hid (HR11.out.later ho)); (try replace HR12 := Lib.hid (HR12.out.later ho)); clear ho)
  go_wp2_with (fail)
  clear hHeld
  refine hK.out _ _ (box_two HB1.out) (fun hHeld => ?_)
  clear hK K
  try simp only [Act.put, List.setIfInBounds_toArray, List.set_cons_zero, List.set_cons_succ]
  refine oneA 13 20 hsel (h := ?_)
  simp only [Act.put, List.setIfInBounds_toArray, List.set_cons_zero, List.set_cons_succ]
  refine oneA 14 21 hsel (h := ?_)
  simp only [Act.put, List.setIfInBounds_toArray, List.set_cons_zero, List.set_cons_succ]
  refine oneA 15 22 hsel (h := ?_)
  simp only [Act.put, List.setIfInBounds_toArray, List.set_cons_zero, List.set_cons_succ]
  refine oneA 18 25 hsel (h := ?_)
  simp only [Act.put, List.setIfInBounds_toArray, List.set_cons_zero, List.set_cons_succ]
  refine wpAnyL_ready (rs := [16]) (by kernel_rfl) (by kernel_rfl) (by simp) ?_
  refine AllReadyL.cons (o := ?_) ?_ (fun K hK => ?_) AllReadyL.nil
  case refine_2 => (simp only [List.getElem?_cons_succ, List.getElem?_cons_zero]; rfl)
  go_simp
  (go_at_call 23; (with_reducible refine (Held_b HP.out HOK.out).mono ?_); rintro e w20 ⟨⟨A4, n4, c4, u4, rfl, hv, hu⟩, ho⟩; (try replace HB1 := Lib.hid (HB1.out.later ho)); (try replace HP := Lib.hid (HP.out.later ho)); (try replace HW := Lib.hid (HW.out.later ho)); (try replace HO := Lib.hid (on_new HO.out ho)); (try replace HR1 := Lib.hid (HR1.out.later ho)); (try replace HR2 := Lib.hid (HR2.out.later ho)); (try replace HR3 := Lib.hid (HR3.out.later ho)); (try replace HR4 := Lib.hid (HR4.out.later ho)); (try replace HR5 := Lib.hid (HR5.out.later ho)); (try replace HR6 := Lib.hid (HR6.out.later ho)); (try replace HR7 := Lib.hid (HR7.out.later ho)); (try replace HR8 := Lib.hid (HR8.out.later ho)); (try replace HR9 := Lib.hid (HR9.out.later ho)); (try replace HR10 := Lib.hid (HR10.out.later ho)); (try replace HR11 := Lib.hid (HR11.out.later ho)); (try replace HR12 := Lib.hid (HR12.out.later ho)); have HR4 := Lib.hid hv.row; have HU4 := Lib.hid hu; have HL4 := Lib.hid (row_len hu); clear hv hu ho)
  go_wp2_with (fail)
  clear hHeld
  refine hK.out _ _ (box_two HB1.out) (fun hHeld => ?_)
  clear hK K
  try simp only [Act.put, List.setIfInBounds_toArray, List.set_cons_zero, List.set_cons_succ]
  refine wpAnyL_ready (rs := [17]) (by kernel_rfl) (by kernel_rfl) (by simp) ?_
  refine AllReadyL.cons (o := ?_) ?_ (fun K hK => ?_) AllReadyL.nil
  case refine_2 => (simp only [List.getElem?_cons_succ, List.getElem?_cons_zero]; rfl)
  go_simp
  (go_at_call 31; (with_reducible refine (old_b HR4.out HL4.out).mono ?_); rintro e w21 ⟨⟨A5, n5, c5, rfl, hv⟩, ho⟩; (try replace HB1 := Lib.hid (HB1.out.later ho)); (try replace HP := Lib.hid (HP.out.later ho)); (try replace HW := Lib.hid (HW.out.later ho)); (try replace HO := Lib.hid (on_new HO.out ho)); (try replace HR1 := Lib.hid (HR1.out.later ho)); (try replace HR2 := Lib.hid (HR2.out.later ho)); (try replace HR3 := Lib.hid (HR3.out.later ho)); (try replace HR4 := Lib.hid (HR4.out.later ho)); (try replace HR5 := Lib.hid (HR5.out.later ho)); (try replace HR6 := Lib.hid (HR6.out.later ho)); (try replace HR7 := Lib.hid (HR7.out.later ho)); (try replace HR8 := Lib.hid (HR8.out.later ho)); (try replace HR9 := Lib.hid (HR9.out.later ho)); (try replace HR10 := Lib.hid (HR10.out.later ho)); (try replace HR11 := Lib.hid (HR11.out.later ho)); (try replace HR12 := Lib.hid (HR12.out.later ho)); have HR5 := Lib.hid hv; clear hv ho)
  go_wp2_with (fail)
  clear hHeld
  refine hK.out _ _ (box_two HB1.out) (fun hHeld => ?_)
  clear hK K
  try simp only [Act.put, List.setIfInBounds_toArray, List.set_cons_zero, List.set_cons_succ]
  refine wpAnyL_ready (rs := [19]) (by kernel_rfl) (by kernel_rfl) (by simp) ?_
  refine AllReadyL.cons (o := ?_) ?_ (fun K hK => ?_) AllReadyL.nil
  case refine_2 => (simp only [List.getElem?_cons_succ, List.getElem?_cons_zero]; rfl)
  go_simp
  (go_at_call 32; (with_reducible refine (rruns_c _ _ lim (-3) l (fun p => ∃ u, S.H u p) HW.out HLP.out.1 HLP.out.2 HF3.out).mono ?_); rintro e w22 ⟨⟨A6, n6, c6, u6, rfl, hv, hu⟩, ho⟩; (try replace HB1 := Lib.hid (HB1.out.later ho)); (try replace HP := Lib.hid (HP.out.later ho)); (try replace HW := Lib.hid (HW.out.later ho)); (try replace HO := Lib.hid (on_new HO.out ho)); (try replace HR1 := Lib.hid (HR1.out.later ho)); (try replace HR2 := Lib.hid (HR2.out.later ho)); (try replace HR3 := Lib.hid (HR3.out.later ho)); (try replace HR4 := Lib.hid (HR4.out.later ho)); (try replace HR5 := Lib.hid (HR5.out.later ho)); (try replace HR6 := Lib.hid (HR6.out.later ho)); (try replace HR7 := Lib.hid (HR7.out.later ho)); (try replace HR8 := Lib.hid (HR8.out.later ho)); (try replace HR9 := Lib.hid (HR9.out.later ho)); (try replace HR10 := Lib.hid (HR10.out.later ho)); (try replace HR11 := Lib.hid (HR11.out.later ho)); (try replace HR12 := Lib.hid (HR12.out.later ho)); have HR6 := Lib.hid hv; have HE6 := Lib.hid (HU4.out.eq hu); clear hv hu ho)
  go_wp2_with (fail)
  clear hHeld
  refine hK.out _ _ (box_two HB1.out) (fun hHeld => ?_)
  clear hK K
  try simp only [Act.put, List.setIfInBounds_toArray, List.set_cons_zero, List.set_cons_succ]
  refine wpAnyL_ready (rs := [20]) (by kernel_rfl) (by kernel_rfl) (by simp) ?_
  refine AllReadyL.cons (o := ?_) ?_ (fun K hK => ?_) AllReadyL.nil
  case refine_2 => (simp only [List.getElem?_cons_succ, List.getElem?_cons_zero]; rfl)
  go_simp
  (go_at_call 30; (with_reducible refine (same_t HR5.out HR6.out HE6.out).mono ?_); rintro e w23 ⟨rfl, ho⟩; (try replace HB1 := Lib.hid (HB1.out.later ho)); (try replace HP := Lib.hid (HP.out.later ho)); (try replace HW := Lib.hid (HW.out.later ho)); (try replace HO := Lib.hid (on_new HO.out ho)); (try replace HR1 := Lib.hid (HR1.out.later ho)); (try replace HR2 := Lib.hid (HR2.out.later ho)); (try replace HR3 := Lib.hid (HR3.out.later ho)); (try replace HR4 := Lib.hid (HR4.out.later ho)); (try replace HR5 := Lib.hid (HR5.out.later ho)); (try replace HR6 := Lib.hid (HR6.out.later ho)); (try replace HR7 := Lib.hid (HR7.out.later ho)); (try replace HR8 := Lib.hid (HR8.out.later ho)); (try replace HR9 := Lib.hid (HR9.out.later ho)); (try replace HR10 := Lib.hid (HR10.out.later ho)); (try replace HR11 := Lib.hid (HR11.out.later ho)); (try replace HR12 := Lib.hid (HR12.out.later ho)); clear ho)
  go_wp2_with (fail)
  clear hHeld
  refine hK.out _ _ (box_two HB1.out) (fun hHeld => ?_)
  clear hK K
  try simp only [Act.put, List.setIfInBounds_toArray, List.set_cons_zero, List.set_cons_succ]
  refine oneA 21 28 hsel (h := ?_)
  simp only [Act.put, List.setIfInBounds_toArray, List.set_cons_zero, List.set_cons_succ]
  refine oneA 22 29 hsel (h := ?_)
  simp only [Act.put, List.setIfInBounds_toArray, List.set_cons_zero, List.set_cons_succ]
  refine oneA 23 30 hsel (h := ?_)
  simp only [Act.put, List.setIfInBounds_toArray, List.set_cons_zero, List.set_cons_succ]
  refine oneA 24 31 hsel (h := ?_)
  simp only [Act.put, List.setIfInBounds_toArray, List.set_cons_zero, List.set_cons_succ]
  refine oneA 27 34 hsel (h := ?_)
  simp only [Act.put, List.setIfInBounds_toArray, List.set_cons_zero, List.set_cons_succ]
  refine oneA 28 35 hsel (h := ?_)
  simp only [Act.put, List.setIfInBounds_toArray, List.set_cons_zero, List.set_cons_succ]
  refine wpAnyL_ready (rs := [25]) (by kernel_rfl) (by kernel_rfl) (by simp) ?_
  refine AllReadyL.cons (o := ?_) ?_ (fun K hK => ?_) AllReadyL.nil
  case refine_2 => (simp only [List.getElem?_cons_succ, List.getElem?_cons_zero]; rfl)
  go_simp
  (go_at_call 24; (with_reducible refine (State_c _ pb mb N S t HP.out HOK.out HT.out).mono ?_); rintro e w24 ⟨A7, n7, c7, A8, n8, c8, la, lb, rfl, hra, hrb, hla, hlb, ho⟩; (try replace HB1 := Lib.hid (HB1.out.later ho)); (try replace HP := Lib.hid (HP.out.later ho)); (try replace HW := Lib.hid (HW.out.later ho)); (try replace HO := Lib.hid (on_new HO.out ho)); (try replace HR1 := Lib.hid (HR1.out.later ho)); (try replace HR2 := Lib.hid (HR2.out.later ho)); (try replace HR3 := Lib.hid (HR3.out.later ho)); (try replace HR4 := Lib.hid (HR4.out.later ho)); (try replace HR5 := Lib.hid (HR5.out.later ho)); (try replace HR6 := Lib.hid (HR6.out.later ho)); (try replace HR7 := Lib.hid (HR7.out.later ho)); (try replace HR8 := Lib.hid (HR8.out.later ho)); (try replace HR9 := Lib.hid (HR9.out.later ho)); (try replace HR10 := Lib.hid (HR10.out.later ho)); (try replace HR11 := Lib.hid (HR11.out.later ho)); (try replace HR12 := Lib.hid (HR12.out.later ho)); have HR7 := Lib.hid hra; have HR8 := Lib.hid hrb; have HU7 := Lib.hid hla; have HU8 := Lib.hid hlb; have HL7 := Lib.hid (Nat.le_trans (row_len hla) (by decide : 1000000 ≤ 2000000)); have HL8 := Lib.hid (Nat.le_trans (row_len hlb) (by decide : 1000000 ≤ 2000000)); clear hra hrb hla hlb ho)
  go_wp2_with (fail)
  clear hHeld
  refine hK.out _ _ (box_two HB1.out) (fun hHeld => ?_)
  clear hK K
  try simp only [Act.put, List.setIfInBounds_toArray, List.set_cons_zero, List.set_cons_succ]
  refine wpAnyL_ready (rs := [26]) (by kernel_rfl) (by kernel_rfl) (by simp) ?_
  refine AllReadyL.cons (o := ?_) ?_ (fun K hK => ?_) AllReadyL.nil
  case refine_2 => (simp only [List.getElem?_cons_succ, List.getElem?_cons_zero]; rfl)
  go_simp
  (go_at_call 34; (with_reducible refine (pOld_c _ A7 A8 n7 c7 n8 c8 la lb HR7.out HR8.out HL7.out HL8.out).mono ?_); rintro e w25 ⟨A9, n9, c9, A10, n10, c10, rfl, hra, hrb, ho⟩; (try replace HB1 := Lib.hid (HB1.out.later ho)); (try replace HP := Lib.hid (HP.out.later ho)); (try replace HW := Lib.hid (HW.out.later ho)); (try replace HO := Lib.hid (on_new HO.out ho)); (try replace HR1 := Lib.hid (HR1.out.later ho)); (try replace HR2 := Lib.hid (HR2.out.later ho)); (try replace HR3 := Lib.hid (HR3.out.later ho)); (try replace HR4 := Lib.hid (HR4.out.later ho)); (try replace HR5 := Lib.hid (HR5.out.later ho)); (try replace HR6 := Lib.hid (HR6.out.later ho)); (try replace HR7 := Lib.hid (HR7.out.later ho)); (try replace HR8 := Lib.hid (HR8.out.later ho)); (try replace HR9 := Lib.hid (HR9.out.later ho)); (try replace HR10 := Lib.hid (HR10.out.later ho)); (try replace HR11 := Lib.hid (HR11.out.later ho)); (try replace HR12 := Lib.hid (HR12.out.later ho)); have HR9 := Lib.hid hra; have HR10 := Lib.hid hrb; clear hra hrb ho)
  go_wp2_with (fail)
  clear hHeld
  refine hK.out _ _ (box_two HB1.out) (fun hHeld => ?_)
  clear hK K
  try simp only [Act.put, List.setIfInBounds_toArray, List.set_cons_zero, List.set_cons_succ]
  refine wpAnyL_ready (rs := [29]) (by kernel_rfl) (by kernel_rfl) (by simp) ?_
  refine AllReadyL.cons (o := ?_) ?_ (fun K hK => ?_) AllReadyL.nil
  case refine_2 => (simp only [List.getElem?_cons_succ, List.getElem?_cons_zero]; rfl)
  go_simp
  (go_at_call 35; (with_reducible refine (rstate_c _ _ lim t l _ (S.H t) HW.out HLP.out.1 HLP.out.2 HSA.out HSB.out HS0.out).mono ?_); rintro e w26 ⟨⟨A11, n11, c11, A12, n12, c12, ua, ub, rfl, hra, hrb, hua, hub⟩, ho⟩; (try replace HB1 := Lib.hid (HB1.out.later ho)); (try replace HP := Lib.hid (HP.out.later ho)); (try replace HW := Lib.hid (HW.out.later ho)); (try replace HO := Lib.hid (on_new HO.out ho)); (try replace HR1 := Lib.hid (HR1.out.later ho)); (try replace HR2 := Lib.hid (HR2.out.later ho)); (try replace HR3 := Lib.hid (HR3.out.later ho)); (try replace HR4 := Lib.hid (HR4.out.later ho)); (try replace HR5 := Lib.hid (HR5.out.later ho)); (try replace HR6 := Lib.hid (HR6.out.later ho)); (try replace HR7 := Lib.hid (HR7.out.later ho)); (try replace HR8 := Lib.hid (HR8.out.later ho)); (try replace HR9 := Lib.hid (HR9.out.later ho)); (try replace HR10 := Lib.hid (HR10.out.later ho)); (try replace HR11 := Lib.hid (HR11.out.later ho)); (try replace HR12 := Lib.hid (HR12.out.later ho)); rw [hua.eq HU7.out] at hra; rw [hub.eq HU8.out] at hrb; have HR11 := Lib.hid hra; have HR12 := Lib.hid hrb; clear hra hrb hua hub ho)
  go_wp2_with (fail)
  clear hHeld
  refine hK.out _ _ (box_two HB1.out) (fun hHeld => ?_)
  clear hK K
  try simp only [Act.put, List.setIfInBounds_toArray, List.set_cons_zero, List.set_cons_succ]
  refine wpAnyL_ready (rs := [30]) (by kernel_rfl) (by kernel_rfl) (by simp) ?_
  refine AllReadyL.cons (o := ?_) ?_ (fun K hK => ?_) AllReadyL.nil
  case refine_2 => (simp only [List.getElem?_cons_succ, List.getElem?_cons_zero]; rfl)
  go_simp
  (go_at_call 33; (with_reducible refine (r10Same_t _ A9 A10 A11 A12 n9 c9 n10 c10 n11 c11 n12 c12 la lb HR9.out HR10.out HR11.out HR12.out).mono ?_); rintro e w27 ⟨rfl, ho⟩; (try replace HB1 := Lib.hid (HB1.out.later ho)); (try replace HP := Lib.hid (HP.out.later ho)); (try replace HW := Lib.hid (HW.out.later ho)); (try replace HO := Lib.hid (on_new HO.out ho)); (try replace HR1 := Lib.hid (HR1.out.later ho)); (try replace HR2 := Lib.hid (HR2.out.later ho)); (try replace HR3 := Lib.hid (HR3.out.later ho)); (try replace HR4 := Lib.hid (HR4.out.later ho)); (try replace HR5 := Lib.hid (HR5.out.later ho)); (try replace HR6 := Lib.hid (HR6.out.later ho)); (try replace HR7 := Lib.hid (HR7.out.later ho)); (try replace HR8 := Lib.hid (HR8.out.later ho)); (try replace HR9 := Lib.hid (HR9.out.later ho)); (try replace HR10 := Lib.hid (HR10.out.later ho)); (try replace HR11 := Lib.hid (HR11.out.later ho)); (try replace HR12 := Lib.hid (HR12.out.later ho)); clear ho)
  go_wp2_with (fail)
  clear hHeld
  refine hK.out _ _ (box_two HB1.out) (fun hHeld => ?_)
  clear hK K
  try simp only [Act.put, List.setIfInBounds_toArray, List.set_cons_zero, List.set_cons_succ]
  refine oneA 31 38 hsel (h := ?_)
  simp only [Act.put, List.setIfInBounds_toArray, List.set_cons_zero, List.set_cons_succ]
  refine oneA 32 6 hsel (h := ?_)
  simp only [Act.put, List.setIfInBounds_toArray, List.set_cons_zero, List.set_cons_succ]
  refine wpAnyL_done (by kernel_rfl) (by kernel_rfl) ?_ _
  clear hsel hHeld
  go_wp2_with (fail)
  go_ret
  exact ⟨rfl, HO.out⟩
end Go.Proofs.YtmadlckladohbaaGreat

/-
  The document's may: runs that may be a state's.
-/
set_option linter.unusedVariables false
namespace Go.Proofs.YtmadlckladohbaaGreat
open Go.RowKit Go.Shelf

def lowP (x : R) : Prop := x.1 < 2 ∨ 16384 < IntKind.i64.wrap (x.1 + x.2)
theorem not_may {l : List R} {x : R} (hx : x ∈ l) (h : lowP x) : ¬ MayS l := fun ⟨h1, h2⟩ => by
  have hm := (may_iff x).1 (right_may h1 x hx)
  have hw : IntKind.i64.wrap (x.1 + x.2) = x.1 + x.2 := IntWalk.i64_in _ (by omega)
  have hp := h2 x.1 ((inn_iff _ _).2 ⟨x, hx, by unfold within; omega⟩)
  have hq := h2 (x.1 + x.2 - 1) ((inn_iff _ _).2 ⟨x, hx, by unfold within; omega⟩)
  rcases h with h | h
  · omega
  · rw [hw] at h
    omega
theorem all_may {l : List R} (h : ∀ x ∈ l, ¬ lowP x) : right l = true ↔ MayS l := by
  refine ⟨fun h1 => ⟨h1, fun p hp => ?_⟩, fun h1 => h1.1⟩
  obtain ⟨x, hx, hin⟩ := (inn_iff _ _).1 hp
  have hm := (may_iff x).1 (right_may h1 x hx)
  have hw : IntKind.i64.wrap (x.1 + x.2) = x.1 + x.2 := IntWalk.i64_in _ (by omega)
  have hl := h x hx
  unfold lowP at hl
  rw [hw] at hl
  unfold within at hin
  omega

set_option maxRecDepth 100000 in
set_option maxHeartbeats 6400000 in
theorem r10may_c (w : World) (v : Value) (l : List R) (h : Row w v l) (hi : ∀ x ∈ l, I64 x) : Calls Tryz.prog 53 #[v] w (MaySays w l) := by
  have HR0 : Hid (∀ W, Only (w.heap.size ≤ ·) w W → Calls Tryz.prog 67 #[v] W (Told W (.bool (right l)))) := Lib.hid fun W hW => by
    obtain ⟨A, c, rfl, hs, _, hnc, hc⟩ := h.later hW
    exact rRight_c W A _ c l hs rfl hi hnc hc
  obtain ⟨A, c, rfl, hs, _, hnc, hc⟩ := h
  obtain ⟨n, hn⟩ : ∃ n, n = l.length := ⟨_, rfl⟩
  rw [← hn] at hnc HR0 ⊢
  have HN := Lib.hid hn
  have HS := Lib.hid hs
  have hn3 : n ≤ 9223372036854775807 := by omega
  clear hn hs hi hnc hc
  go_enter Tryz.func53, Tryz.ntmps53
  go_wp2
  go_loopg [3] n (fun gk0 i wr => ∃ k : Nat, gk0 = n - k ∧ k ≤ n ∧ i = .int .i64 (k : Int) ∧ Hid (∀ j x, j < k → l[j]? = some x → ¬ lowP x) ∧ Hid (Only (w.heap.size ≤ ·) w wr))
  case atStart => exact ⟨0, rfl, Nat.zero_le _, rfl, Lib.hid fun j x h => absurd h (by omega), Lib.hid (Only.refl _ w)⟩
  case round =>
    obtain ⟨k, rfl, hk, rfl, HG, HO⟩ := hrel
    by_cases hlt : k < n
    · obtain ⟨g, off, x, rfl, hg, hx, hc1, hc2⟩ := (HS.out.later HO.out).at_ (k := k) (by rw [← HN.out]; exact hlt)
      have HX := Lib.hid hx
      have hlt' : (k : Int) < (n : Int) := by omega
      obtain ⟨x1, x2⟩ := x
      simp only at hc1 hc2
      clear hx
      by_cases d1 : x1 < 2
      · have HLO : Hid (lowP (x1, x2)) := Lib.hid (.inl d1)
        go_wp2_with (fail)
        go_quiet (fail)
        go_wp2
        go_ret
        exact ⟨⟨_, rfl, by simp only [Bool.false_eq_true, false_iff]; exact not_may (List.mem_of_getElem? HX.out) HLO.out⟩, HO.out.drewN _⟩
      · obtain ⟨sm, hsm⟩ : ∃ sm, sm = IntKind.i64.wrap (x1 + x2) := ⟨_, rfl⟩
        by_cases d2 : 16384 < sm
        · have HLO : Hid (lowP (x1, x2)) := Lib.hid (.inr (by rw [← hsm]; exact d2))
          have hsm' := hsm.symm
          clear hsm
          go_wp2_with (fail)
          go_quiet (fail)
          go_wp2
          go_ret
          exact ⟨⟨_, rfl, by simp only [Bool.false_eq_true, false_iff]; exact not_may (List.mem_of_getElem? HX.out) HLO.out⟩, HO.out.drewN _⟩
        · have HNL : Hid (¬ lowP (x1, x2)) := Lib.hid (by unfold lowP; rw [← hsm]; simp only; omega)
          have hsm' := hsm.symm
          clear hsm
          go_wp2_with (fail)
          go_quiet (fail)
          go_wp2
          go_roundg (n - (k + 1))
          case measure => omega
          case rel => exact ⟨k + 1, rfl, by omega, by go_num, Lib.hid (fun j y hj hy => by
            rcases Nat.lt_or_ge j k with h1 | h1
            · exact HG.out j y h1 hy
            · obtain rfl : j = k := by omega
              rw [HX.out] at hy
              cases hy
              exact HNL.out), Lib.hid (HO.out.drewN _)⟩
    · obtain rfl : k = n := by omega
      have hkm : ¬ (k : Int) < (k : Int) := by omega
      have HALL : Hid (∀ x ∈ l, ¬ lowP x) := Lib.hid fun x hx => by
        obtain ⟨j, hj⟩ := List.mem_iff_getElem?.1 hx
        exact HG.out j x (by rw [HN.out]; exact (List.getElem?_eq_some_iff.1 hj).1) hj
      go_wp2_with (go_at_call 67; (with_reducible refine (HR0.out _ HO.out).mono ?_); rintro e w5 ⟨rfl, ho⟩; have HO5 := Lib.hid (on_new HO.out ho); clear ho)
      go_ret
      exact ⟨⟨_, rfl, all_may HALL.out⟩, HO5.out⟩
end Go.Proofs.YtmadlckladohbaaGreat

/-
  The document's Right of a state.
-/
set_option linter.unusedVariables false
namespace Go.Proofs.YtmadlckladohbaaGreat
open Go.RowKit Go.Shelf

def meetP (x y : R) : Prop := x.1 < y.1 + y.2 ∧ y.1 < x.1 + x.2
theorem meet_not {a b : List R} {x y : R} (ha : right a = true) (hb : right b = true) (hx : x ∈ a) (hy : y ∈ b) (h : meetP x y) : ¬ RightS a b := fun ⟨_, _, h3⟩ => by
  have hmx := (may_iff x).1 (right_may ha x hx)
  have hmy := (may_iff y).1 (right_may hb y hy)
  obtain ⟨h1, h2⟩ := h
  rcases Int.le_total x.1 y.1 with hle | hle
  · exact h3 y.1 ((inn_iff _ _).2 ⟨x, hx, by unfold within; omega⟩) ((inn_iff _ _).2 ⟨y, hy, by unfold within; omega⟩)
  · exact h3 x.1 ((inn_iff _ _).2 ⟨x, hx, by unfold within; omega⟩) ((inn_iff _ _).2 ⟨y, hy, by unfold within; omega⟩)
theorem meet_none {a b : List R} (ha : MayS a) (hb : MayS b) (h : ∀ x ∈ a, ∀ y ∈ b, ¬ meetP x y) : RightS a b := ⟨ha, hb, fun p hp hq => by
  obtain ⟨x, hx, hxp⟩ := (inn_iff _ _).1 hp
  obtain ⟨y, hy, hyp⟩ := (inn_iff _ _).1 hq
  refine h x hx y hy ?_
  unfold within at hxp hyp
  unfold meetP
  omega⟩
def RightSays (w : World) (a b : List R) (e : Ending) (w' : World) : Prop := (∃ r : Bool, e = .returned (.bool r) ∧ (r = true ↔ RightS a b)) ∧ Only (w.heap.size ≤ ·) w w'

set_option maxRecDepth 100000 in
set_option maxHeartbeats 12800000 in
theorem r10Right_c (w : World) (A B : Option Addr) (nn cc mm dd : Nat) (a b : List R) (ha : Row w (.slice A nn cc) a) (hb : Row w (.slice B mm dd) b) (hai : ∀ x ∈ a, I64 x) (hbi : ∀ x ∈ b, I64 x) :
    Calls Tryz.prog 28 #[.agg #[.slice A nn cc, .slice B mm dd]] w (RightSays w a b) := by
  have HMA : Hid (∀ W, Only (w.heap.size ≤ ·) w W → Calls Tryz.prog 53 #[.slice A nn cc] W (MaySays W a)) := Lib.hid fun W hW => r10may_c W _ a (ha.later hW) hai
  have HMB : Hid (∀ W, Only (w.heap.size ≤ ·) w W → Calls Tryz.prog 53 #[.slice B mm dd] W (MaySays W b)) := Lib.hid fun W hW => r10may_c W _ b (hb.later hW) hbi
  obtain ⟨w2, hw2⟩ : ∃ w2, w2 = w.alloc (.cells #[.slice A nn cc, .slice B mm dd] 24) := ⟨_, rfl⟩
  obtain ⟨b1, hb1⟩ : ∃ b1, b1 = w.heap.size := ⟨_, rfl⟩
  have HB1 : Hid (Blk w2 b1 24 [.slice A nn cc, .slice B mm dd]) := Lib.hid (by rw [hw2, hb1]; exact Blk.new w _ [.slice A nn cc, .slice B mm dd])
  have HO : Hid (Only (w.heap.size ≤ ·) w w2) := Lib.hid (by rw [hw2]; exact (Only.refl _ w).alloc (fun _ h => h) _)
  have HEQ : Hid (w2 = w.alloc (.cells #[.slice A nn cc, .slice B mm dd] 24) ∧ b1 = w.heap.size) := Lib.hid ⟨hw2, hb1⟩
  obtain ⟨A', c', e, hsa, _, hna, hca⟩ := ha
  simp only [Value.slice.injEq] at e
  obtain ⟨rfl, hla, rfl⟩ := e
  obtain ⟨B', d', e, hsb, _, hnb, hcb⟩ := hb
  simp only [Value.slice.injEq] at e
  obtain ⟨rfl, hlb, rfl⟩ := e
  have HSA := Lib.hid hsa
  have HSB := Lib.hid hsb
  have HLA := Lib.hid hla
  have HLB := Lib.hid hlb
  have HBN : Hid (nn ≤ 9223372036854775807 ∧ mm ≤ 9223372036854775807) := Lib.hid (by omega)
  clear hsa hsb hla hlb hna hca hnb hcb hw2 hb1 hai hbi
  by_cases h1 : MayS a
  · by_cases h2 : MayS b
    · have H1 := Lib.hid h1
      have H2 := Lib.hid h2
      replace HMA : Hid (∀ W, Only (w.heap.size ≤ ·) w W → Calls Tryz.prog 53 #[.slice A nn cc] W (Told W (.bool true))) := Lib.hid fun W hW => (HMA.out W hW).mono fun e w' ⟨⟨r, r1, r2⟩, r3⟩ => ⟨by rw [r1, r2.2 H1.out], r3⟩
      replace HMB : Hid (∀ W, Only (w.heap.size ≤ ·) w W → Calls Tryz.prog 53 #[.slice B mm dd] W (Told W (.bool true))) := Lib.hid fun W hW => (HMB.out W hW).mono fun e w' ⟨⟨r, r1, r2⟩, r3⟩ => ⟨by rw [r1, r2.2 H2.out], r3⟩
      clear h1 h2
      go_enter Tryz.func28, Tryz.ntmps28
      go_upto_region 1 with (fail)
      rw [← HEQ.out.1, ← HEQ.out.2]
      obtain ⟨q0, q1⟩ := box_two HB1.out
      go_wp2_with (first
        | (go_at_call 53; (with_reducible refine (HMA.out _ HO.out).mono ?_); rintro e w3 ⟨rfl, ho⟩; have HO3 := Lib.hid (on_new HO.out ho); have HB3 := Lib.hid (HB1.out.later ho); obtain ⟨p0, p1⟩ := box_two HB3.out; clear ho)
        | (go_at_call 53; (with_reducible refine (HMB.out _ HO3.out).mono ?_); rintro e w4 ⟨rfl, ho⟩; have HO4 := Lib.hid (on_new HO3.out ho); have HB4 := Lib.hid (HB3.out.later ho); clear ho))
      clear q0 q1 p0 p1
      go_loopg [3] nn (fun gk0 i wr => ∃ k : Nat, gk0 = nn - k ∧ k ≤ nn ∧ i = .int .i64 (k : Int) ∧ Hid (∀ j x, j < k → a[j]? = some x → ∀ y ∈ b, ¬ meetP x y) ∧ Hid (Blk wr b1 24 [.slice A nn cc, .slice B mm dd]) ∧ Hid (Only (w.heap.size ≤ ·) w wr))
      case atStart => exact ⟨0, rfl, Nat.zero_le _, rfl, Lib.hid fun j x h => absurd h (by omega), HB4, HO4⟩
      case round =>
        obtain ⟨k, rfl, hk, rfl, HG, HB1, HO⟩ := hrel
        obtain ⟨q0, q1⟩ := box_two HB1.out
        have hbn := HBN.out
        by_cases hlt : k < nn
        · obtain ⟨g, off, x, rfl, hg, hx, hc1, hc2⟩ := (HSA.out.later HO.out).at_ (k := k) (by rw [← HLA.out]; exact hlt)
          have HX := Lib.hid hx
          have hmx := (may_iff x).1 (right_may H1.out.1 x (List.mem_of_getElem? hx))
          obtain ⟨x1, x2⟩ := x
          simp only at hmx
          clear hx hc1 hc2 hg
          have hlt' : (k : Int) < (nn : Int) := by omega
          go_wp2_with (fail)
          go_loopg [4] mm (fun gk1 i wr => ∃ j : Nat, gk1 = mm - j ∧ j ≤ mm ∧ i = .int .i64 (j : Int) ∧ Hid (∀ q y, q < j → b[q]? = some y → ¬ meetP (x1, x2) y) ∧ Hid (Blk wr b1 24 [.slice (some ⟨g, off, none⟩) nn cc, .slice B mm dd]) ∧ Hid (Only (w.heap.size ≤ ·) w wr))
          case atStart => exact ⟨0, rfl, Nat.zero_le _, rfl, Lib.hid fun j x h => absurd h (by omega), HB1, HO⟩
          case round =>
            obtain ⟨j, rfl, hj, rfl, HGJ, HB1, HO⟩ := hrel
            obtain ⟨q0, q1⟩ := box_two HB1.out
            obtain ⟨g5, off5, x5, e5, hg5, hx5, hc1, hc2⟩ := (HSA.out.later HO.out).at_ (k := k) (by rw [← HLA.out]; exact hlt)
            rw [HX.out] at hx5
            obtain rfl : (x1, x2) = x5 := by injection hx5
            simp only [Option.some.injEq, Addr.mk.injEq, and_true] at e5
            obtain ⟨rfl, rfl⟩ := e5
            simp only at hc1 hc2
            by_cases hjm : j < mm
            · obtain ⟨gy, offy, y, rfl, hgy, hy, hd1, hd2⟩ := (HSB.out.later HO.out).at_ (k := j) (by rw [← HLB.out]; exact hjm)
              have HY := Lib.hid hy
              have hmy := (may_iff y).1 (right_may H2.out.1 y (List.mem_of_getElem? hy))
              obtain ⟨y1, y2⟩ := y
              simp only at hmy hd1 hd2
              have hd1' := ((Only.refl (wr.heap.size ≤ ·) wr).alloc (fun _ h => h) (.cells #[.int .i64 x1, .int .i64 x2] 44)).cell (p := ⟨gy, offy + j * 2, none⟩) (Nat.not_le.2 hgy) |>.trans hd1
              have hd2' := ((Only.refl (wr.heap.size ≤ ·) wr).alloc (fun _ h => h) (.cells #[.int .i64 x1, .int .i64 x2] 44)).cell (p := ⟨gy, offy + j * 2 + 1, none⟩) (Nat.not_le.2 hgy) |>.trans hd2
              clear hx5 hg5 hy hgy
              have hjm' : (j : Int) < (mm : Int) := by omega
              have hlt' : (k : Int) < (nn : Int) := by omega
              have HBX : Hid (Only (w.heap.size ≤ ·) w ((wr.alloc (.cells #[.int .i64 x1, .int .i64 x2] 44)).alloc (.cells #[.int .i64 y1, .int .i64 y2] 44))) := Lib.hid ((HO.out.alloc (fun _ h => h) _).alloc (fun _ h => h) _)
              have HBY := Lib.hid ((HB1.out.alloc (.cells #[.int .i64 x1, .int .i64 x2] 44)).alloc (.cells #[.int .i64 y1, .int .i64 y2] 44))
              obtain ⟨q2, q3⟩ := box_two (HB1.out.alloc (.cells #[.int .i64 x1, .int .i64 x2] 44))
              by_cases e1 : x1 < y1 + y2
              · by_cases e2 : y1 < x1 + x2
                · have HME : Hid (meetP (x1, x2) (y1, y2)) := Lib.hid ⟨e1, e2⟩
                  go_wp2_with (fail)
                  go_ret
                  exact ⟨⟨_, rfl, by simp only [Bool.false_eq_true, false_iff]; exact meet_not H1.out.1 H2.out.1 (List.mem_of_getElem? HX.out) (List.mem_of_getElem? HY.out) HME.out⟩, HBX.out⟩
                · have HME : Hid (¬ meetP (x1, x2) (y1, y2)) := Lib.hid fun h => e2 h.2
                  go_wp2_with (fail)
                  go_roundg (mm - (j + 1))
                  case measure => omega
                  case rel => exact ⟨j + 1, rfl, by omega, by go_num, Lib.hid (fun q z hq hz => by
                    rcases Nat.lt_or_ge q j with h1 | h1
                    · exact HGJ.out q z h1 hz
                    · obtain rfl : q = j := by omega
                      rw [HY.out] at hz
                      cases hz
                      exact HME.out), HBY, HBX⟩
              · have HME : Hid (¬ meetP (x1, x2) (y1, y2)) := Lib.hid fun h => e1 h.1
                go_wp2_with (fail)
                go_roundg (mm - (j + 1))
                case measure => omega
                case rel => exact ⟨j + 1, rfl, by omega, by go_num, Lib.hid (fun q z hq hz => by
                  rcases Nat.lt_or_ge q j with h1 | h1
                  · exact HGJ.out q z h1 hz
                  · obtain rfl : q = j := by omega
                    rw [HY.out] at hz
                    cases hz
                    exact HME.out), HBY, HBX⟩
            · obtain rfl : j = mm := by omega
              have hkm : ¬ (j : Int) < (j : Int) := by omega
              go_wp2_with (fail)
              go_roundg (nn - (k + 1))
              case measure => omega
              case rel => exact ⟨k + 1, rfl, by omega, by go_num, Lib.hid (fun i z hi hz y hy => by
                rcases Nat.lt_or_ge i k with h1 | h1
                · exact HG.out i z h1 hz y hy
                · obtain rfl : i = k := by omega
                  rw [HX.out] at hz
                  cases hz
                  obtain ⟨q, hq⟩ := List.mem_iff_getElem?.1 hy
                  exact HGJ.out q y (by rw [HLB.out]; exact (List.getElem?_eq_some_iff.1 hq).1) hq), HB1, HO⟩
        · obtain rfl : k = nn := by omega
          have hkm : ¬ (k : Int) < (k : Int) := by omega
          have HALL : Hid (∀ x ∈ a, ∀ y ∈ b, ¬ meetP x y) := Lib.hid fun x hx => by
            obtain ⟨j, hj⟩ := List.mem_iff_getElem?.1 hx
            exact HG.out j x (by rw [HLA.out]; exact (List.getElem?_eq_some_iff.1 hj).1) hj
          go_wp2_with (fail)
          go_ret
          exact ⟨⟨_, rfl, by simp only [true_iff]; exact meet_none H1.out H2.out HALL.out⟩, HO.out⟩
    · have HN : Hid (¬ RightS a b) := Lib.hid fun h => h2 h.2.1
      have H1 := Lib.hid h1
      have H2 := Lib.hid h2
      replace HMA : Hid (∀ W, Only (w.heap.size ≤ ·) w W → Calls Tryz.prog 53 #[.slice A nn cc] W (Told W (.bool true))) := Lib.hid fun W hW => (HMA.out W hW).mono fun e w' ⟨⟨r, r1, r2⟩, r3⟩ => ⟨by rw [r1, r2.2 H1.out], r3⟩
      replace HMB : Hid (∀ W, Only (w.heap.size ≤ ·) w W → Calls Tryz.prog 53 #[.slice B mm dd] W (Told W (.bool false))) := Lib.hid fun W hW => (HMB.out W hW).mono fun e w' ⟨⟨r, r1, r2⟩, r3⟩ => ⟨by rw [r1, Bool.eq_false_iff.2 fun e => H2.out (r2.1 e)], r3⟩
      clear h1 h2
      go_enter Tryz.func28, Tryz.ntmps28
      go_upto_region 1 with (fail)
      rw [← HEQ.out.1, ← HEQ.out.2]
      obtain ⟨q0, q1⟩ := box_two HB1.out
      go_wp2_with (first
        | (go_at_call 53; (with_reducible refine (HMA.out _ HO.out).mono ?_); rintro e w3 ⟨rfl, ho⟩; have HO3 := Lib.hid (on_new HO.out ho); have HB3 := Lib.hid (HB1.out.later ho); obtain ⟨p0, p1⟩ := box_two HB3.out; clear ho)
        | (go_at_call 53; (with_reducible refine (HMB.out _ HO3.out).mono ?_); rintro e w4 ⟨rfl, ho⟩; have HO4 := Lib.hid (on_new HO3.out ho); clear ho))
      go_ret
      exact ⟨⟨_, rfl, by simp [HN.out]⟩, HO4.out⟩
  · have HN : Hid (¬ RightS a b) := Lib.hid fun h => h1 h.1
    have H1 := Lib.hid h1
    replace HMA : Hid (∀ W, Only (w.heap.size ≤ ·) w W → Calls Tryz.prog 53 #[.slice A nn cc] W (Told W (.bool false))) := Lib.hid fun W hW => (HMA.out W hW).mono fun e w' ⟨⟨r, r1, r2⟩, r3⟩ => ⟨by rw [r1, Bool.eq_false_iff.2 fun e => H1.out (r2.1 e)], r3⟩
    clear h1
    go_enter Tryz.func28, Tryz.ntmps28
    go_upto_region 1 with (fail)
    rw [← HEQ.out.1, ← HEQ.out.2]
    obtain ⟨q0, q1⟩ := box_two HB1.out
    go_wp2_with (go_at_call 53; (with_reducible refine (HMA.out _ HO.out).mono ?_); rintro e w3 ⟨rfl, ho⟩; have HO3 := Lib.hid (on_new HO.out ho); clear ho)
    go_ret
    exact ⟨⟨_, rfl, by simp [HN.out]⟩, HO3.out⟩
end Go.Proofs.YtmadlckladohbaaGreat

/-
  The document's New, as plain data.
-/
set_option linter.unusedVariables false
namespace Go.Proofs.YtmadlckladohbaaGreat
open Go.RowKit Go.Shelf

/-- These pages are somebody's. -/
def setL (L : List Int) (x : Int) : List Int → List Int
  | [] => L
  | q :: ps => setL (L.set q.toNat x) x ps
theorem setL_length (x : Int) : ∀ (ps L : List Int), (setL L x ps).length = L.length
  | [], L => rfl
  | q :: ps, L => by
    rw [setL, setL_length x ps, List.length_set]
theorem setL_get (x : Int) : ∀ (ps L : List Int) (k : Nat), (∀ q ∈ ps, 0 ≤ q) → (setL L x ps)[k]? = if (k : Int) ∈ ps ∧ k < L.length then some x else L[k]?
  | [], L, k, _ => by
    rw [if_neg (fun h => by simp at h)]
    rfl
  | q :: ps, L, k, h => by
    have h0 := h q (List.mem_cons_self)
    rw [setL, setL_get x ps _ k (fun z hz => h z (List.mem_cons_of_mem _ hz)), List.length_set]
    by_cases hq : (k : Int) = q
    · have hk : q.toNat = k := by omega
      by_cases hlt : k < L.length
      · rw [if_pos (⟨by rw [hq]; exact List.mem_cons_self, hlt⟩ : (k : Int) ∈ q :: ps ∧ k < L.length), hk, List.getElem?_set_self hlt]
        split <;> rfl
      · rw [if_neg (fun h => hlt h.2), if_neg (fun h => hlt h.2), List.getElem?_eq_none (by rw [List.length_set]; omega), List.getElem?_eq_none (by omega)]
    · have hne : q.toNat ≠ k := by omega
      rw [List.getElem?_set_ne hne]
      by_cases hm : (k : Int) ∈ ps ∧ k < L.length
      · rw [if_pos hm, if_pos ⟨List.mem_cons_of_mem _ hm.1, hm.2⟩]
      · rw [if_neg hm, if_neg (fun h => hm ⟨by rcases List.mem_cons.1 h.1 with e | e; exact absurd e hq; exact e, h.2⟩)]
theorem setL_snoc (x : Int) : ∀ (ps L : List Int) (q : Int), setL L x (ps ++ [q]) = (setL L x ps).set q.toNat x
  | [], L, q => rfl
  | z :: ps, L, q => by
    rw [List.cons_append, setL, setL, setL_snoc x ps]
def whoN (a b : List R) (t : Int) (p : Nat) : List Int := setL (setL (List.replicate p (-2)) (-1) (pagesOf a)) t (pagesOf b)
theorem pages_pos {u : List R} (h : right u = true) : ∀ q ∈ pagesOf u, 0 ≤ q := fun q hq => (inn_lt h ((mem_pagesOf h q).1 hq)).1
theorem who_new {a b : List R} {t lim : Int} {p : Nat} (h : NewOk a b t p lim) : WhoS (NewS a b t p lim) (whoN a b t p) := by
  obtain ⟨h1, h2, h3, h4, ⟨⟨ha, ha2⟩, ⟨hb, hb2⟩, h7⟩, h8, h9⟩ := h
  refine ⟨by unfold whoN; rw [setL_length, setL_length, List.length_replicate]; rfl, fun k x hx => ?_⟩
  unfold whoN at hx
  rw [setL_get t _ _ k (pages_pos hb), setL_length, List.length_replicate, setL_get (-1) _ _ k (pages_pos ha), List.length_replicate] at hx
  have hk : k < p := by
    by_cases hk : k < p
    · exact hk
    · rw [if_neg (fun h => hk h.2), if_neg (fun h => hk h.2), List.getElem?_eq_none (by rw [List.length_replicate]; omega)] at hx
      cases hx
  by_cases e1 : (k : Int) ∈ pagesOf b
  · rw [if_pos ⟨e1, hk⟩] at hx
    cases hx
    exact .inr (.inl ⟨h4, rfl, (mem_pagesOf hb _).1 e1⟩)
  · rw [if_neg (fun h => e1 h.1)] at hx
    by_cases e2 : (k : Int) ∈ pagesOf a
    · rw [if_pos ⟨e2, hk⟩] at hx
      cases hx
      exact .inl ⟨rfl, (mem_pagesOf ha _).1 e2⟩
    · rw [if_neg (fun h => e2 h.1), List.getElem?_replicate, if_pos hk] at hx
      cases hx
      exact .inr (.inr ⟨rfl, fun h => e2 ((mem_pagesOf ha _).2 h), fun u hu => e1 ((mem_pagesOf hb _).2 hu.2)⟩)
theorem new_far {a b : List R} {t p lim q : Int} (h : NewOk a b t p lim) (hq : q ∈ pagesOf a ∨ q ∈ pagesOf b) : q < p := by
  obtain ⟨h1, h2, h3, h4, ⟨⟨ha, ha2⟩, ⟨hb, hb2⟩, h7⟩, h8, h9⟩ := h
  rcases hq with hq | hq
  · have := (endOf_facts ha).2.2.1 q ((mem_pagesOf ha q).1 hq)
    omega
  · have := (endOf_facts hb).2.2.1 q ((mem_pagesOf hb q).1 hq)
    omega
theorem new_near {a b : List R} {t p lim : Int} (h1 : 2 ≤ p) (h2 : p ≤ lim) (h3 : lim ≤ 16384) (h4 : 0 ≤ t) (hr : RightS a b) (ha : ∀ q ∈ pagesOf a, q < p) (hb : ∀ q ∈ pagesOf b, q < p) : NewOk a b t p lim :=
  ⟨h1, h2, h3, h4, hr, endOf_le hr.1.1 (by omega) fun q hq => ha q ((mem_pagesOf hr.1.1 q).2 hq), endOf_le hr.2.1.1 (by omega) fun q hq => hb q ((mem_pagesOf hr.2.1.1 q).2 hq)⟩
end Go.Proofs.YtmadlckladohbaaGreat

/-
  The document's New, where there is none ahead of the loops.
-/
set_option linter.unusedVariables false
namespace Go.Proofs.YtmadlckladohbaaGreat
open Go.RowKit Go.Shelf

theorem load_zero {w : World} {q : Nat} (h : Blk w q 39 [.slice none 0 0, .int .i64 0]) : (loadVar 39 ⟨q, 0, none⟩).run Tryz.prog w = .ok (.agg #[.slice none 0 0, .int .i64 0]) w := load_pool h
/-- There is none. -/
def NoneDoc (w : World) (e : Ending) (w' : World) : Prop := e = .returned (.tuple #[.agg #[.slice none 0 0, .int .i64 0], .bool false]) ∧ Only (w.heap.size ≤ ·) w w'

set_option maxRecDepth 100000 in
set_option maxHeartbeats 6400000 in
theorem rnew_early (w : World) (A B : Option Addr) (nn cc mm dd : Nat) (a b : List R) (t p lim : Int) (ha : Row w (.slice A nn cc) a) (hb : Row w (.slice B mm dd) b) (hai : ∀ x ∈ a, I64 x) (hbi : ∀ x ∈ b, I64 x) (h : ¬ RightS a b ∨ p < 2 ∨ lim < p ∨ 16384 < lim ∨ t < 0) :
    Calls Tryz.prog 8 #[.agg #[.slice A nn cc, .slice B mm dd], .int .i64 t, .int .i64 p, .int .i64 lim] w (NoneDoc w) := by
  have HRT : Hid (∀ W, Only (w.heap.size ≤ ·) w W → Calls Tryz.prog 28 #[.agg #[.slice A nn cc, .slice B mm dd]] W (RightSays W a b)) := Lib.hid fun W hW => r10Right_c W A B nn cc mm dd a b (ha.later hW) (hb.later hW) hai hbi
  obtain ⟨w2, hw2⟩ : ∃ w2, w2 = (w.alloc (.cells #[.slice A nn cc, .slice B mm dd] 24)).alloc (.cells #[.slice none 0 0, .int .i64 0] 39) := ⟨_, rfl⟩
  obtain ⟨b1, hb1⟩ : ∃ b1, b1 = w.heap.size := ⟨_, rfl⟩
  obtain ⟨b2, hb2⟩ : ∃ b2, b2 = w.heap.size + 1 := ⟨_, rfl⟩
  have HB1 : Hid (Blk w2 b1 24 [.slice A nn cc, .slice B mm dd]) := Lib.hid (by rw [hw2, hb1]; exact (Blk.new w _ [.slice A nn cc, .slice B mm dd]).alloc _)
  have HB2 : Hid (Blk w2 b2 39 [.slice none 0 0, .int .i64 0]) := Lib.hid (by
    rw [hw2, hb2]
    have := Blk.new (w.alloc (.cells #[.slice A nn cc, .slice B mm dd] 24)) 39 [.slice none 0 0, .int .i64 0]
    rwa [show (w.alloc (.cells #[.slice A nn cc, .slice B mm dd] 24)).heap.size = w.heap.size + 1 by simp] at this)
  have HO : Hid (Only (w.heap.size ≤ ·) w w2) := Lib.hid (by rw [hw2]; exact ((Only.refl _ w).alloc (fun _ h => h) _).alloc (fun _ h => h) _)
  have HBN : Hid (w.heap.size ≤ b2) := Lib.hid (by omega)
  have HEQ : Hid (w2 = (w.alloc (.cells #[.slice A nn cc, .slice B mm dd] 24)).alloc (.cells #[.slice none 0 0, .int .i64 0] 39) ∧ b1 = w.heap.size ∧ b2 = w.heap.size + 1) := Lib.hid ⟨hw2, hb1, hb2⟩
  clear ha hb hai hbi hw2 hb1 hb2
  by_cases hr : RightS a b
  · have HR := Lib.hid hr
    replace HRT : Hid (∀ W, Only (w.heap.size ≤ ·) w W → Calls Tryz.prog 28 #[.agg #[.slice A nn cc, .slice B mm dd]] W (Told W (.bool true))) := Lib.hid fun W hW => (HRT.out W hW).mono fun e w' ⟨⟨r, r1, r2⟩, r3⟩ => ⟨by rw [r1, r2.2 HR.out], r3⟩
    by_cases d0 : p < 2
    · clear h hr
      go_enter Tryz.func8, Tryz.ntmps8
      go_upto_region 1 with (fail)
      rw [← HEQ.out.1, ← HEQ.out.2.2, ← HEQ.out.2.1]
      obtain ⟨q0, q1⟩ := box_two HB1.out
      go_wp2_with (go_at_call 28; (with_reducible refine (HRT.out _ HO.out).mono ?_); rintro e w3 ⟨rfl, ho⟩; have HB23 := Lib.hid (HB2.out.later ho); have HO3 := Lib.hid (on_new HO.out ho); obtain ⟨r30, r31⟩ := box_two HB23.out; have g30 := HB23.out.frozen 0; have g31 := HB23.out.frozen 1; clear ho)
      have HF1 : Hid (Blk ((w3.setCell ⟨b2, 0, none⟩ (.slice none 0 0)).setCell ⟨b2, 1, none⟩ (.int .i64 0)) b2 39 [.slice none 0 0, .int .i64 0]) := Lib.hid ((HB23.out.set_ 0 _).set_ 1 _)
      have HF3 : Hid (Only (w.heap.size ≤ ·) w ((w3.setCell ⟨b2, 0, none⟩ (.slice none 0 0)).setCell ⟨b2, 1, none⟩ (.int .i64 0))) := Lib.hid ((HO3.out.setCell (p := ⟨b2, 0, none⟩) HBN.out _).setCell (p := ⟨b2, 1, none⟩) HBN.out _)
      exact bodyPost_ret (v := .tuple #[.agg #[.slice none 0 0, .int .i64 0], .bool false]) (results_cell2 rfl rfl rfl (load_pool HF1.out)) rfl ⟨rfl, HF3.out⟩
    ·
      by_cases d1 : lim < p
      · clear h hr
        go_enter Tryz.func8, Tryz.ntmps8
        go_upto_region 1 with (fail)
        rw [← HEQ.out.1, ← HEQ.out.2.2, ← HEQ.out.2.1]
        obtain ⟨q0, q1⟩ := box_two HB1.out
        go_wp2_with (go_at_call 28; (with_reducible refine (HRT.out _ HO.out).mono ?_); rintro e w3 ⟨rfl, ho⟩; have HB23 := Lib.hid (HB2.out.later ho); have HO3 := Lib.hid (on_new HO.out ho); obtain ⟨r30, r31⟩ := box_two HB23.out; have g30 := HB23.out.frozen 0; have g31 := HB23.out.frozen 1; clear ho)
        have HF1 : Hid (Blk ((w3.setCell ⟨b2, 0, none⟩ (.slice none 0 0)).setCell ⟨b2, 1, none⟩ (.int .i64 0)) b2 39 [.slice none 0 0, .int .i64 0]) := Lib.hid ((HB23.out.set_ 0 _).set_ 1 _)
        have HF3 : Hid (Only (w.heap.size ≤ ·) w ((w3.setCell ⟨b2, 0, none⟩ (.slice none 0 0)).setCell ⟨b2, 1, none⟩ (.int .i64 0))) := Lib.hid ((HO3.out.setCell (p := ⟨b2, 0, none⟩) HBN.out _).setCell (p := ⟨b2, 1, none⟩) HBN.out _)
        exact bodyPost_ret (v := .tuple #[.agg #[.slice none 0 0, .int .i64 0], .bool false]) (results_cell2 rfl rfl rfl (load_pool HF1.out)) rfl ⟨rfl, HF3.out⟩
      ·
        by_cases d2 : 16384 < lim
        · clear h hr
          go_enter Tryz.func8, Tryz.ntmps8
          go_upto_region 1 with (fail)
          rw [← HEQ.out.1, ← HEQ.out.2.2, ← HEQ.out.2.1]
          obtain ⟨q0, q1⟩ := box_two HB1.out
          go_wp2_with (go_at_call 28; (with_reducible refine (HRT.out _ HO.out).mono ?_); rintro e w3 ⟨rfl, ho⟩; have HB23 := Lib.hid (HB2.out.later ho); have HO3 := Lib.hid (on_new HO.out ho); obtain ⟨r30, r31⟩ := box_two HB23.out; have g30 := HB23.out.frozen 0; have g31 := HB23.out.frozen 1; clear ho)
          have HF1 : Hid (Blk ((w3.setCell ⟨b2, 0, none⟩ (.slice none 0 0)).setCell ⟨b2, 1, none⟩ (.int .i64 0)) b2 39 [.slice none 0 0, .int .i64 0]) := Lib.hid ((HB23.out.set_ 0 _).set_ 1 _)
          have HF3 : Hid (Only (w.heap.size ≤ ·) w ((w3.setCell ⟨b2, 0, none⟩ (.slice none 0 0)).setCell ⟨b2, 1, none⟩ (.int .i64 0))) := Lib.hid ((HO3.out.setCell (p := ⟨b2, 0, none⟩) HBN.out _).setCell (p := ⟨b2, 1, none⟩) HBN.out _)
          exact bodyPost_ret (v := .tuple #[.agg #[.slice none 0 0, .int .i64 0], .bool false]) (results_cell2 rfl rfl rfl (load_pool HF1.out)) rfl ⟨rfl, HF3.out⟩
        ·
          have d3 : t < 0 := (((h.resolve_left (fun h => h hr)).resolve_left d0).resolve_left d1).resolve_left d2
          clear h hr
          go_enter Tryz.func8, Tryz.ntmps8
          go_upto_region 1 with (fail)
          rw [← HEQ.out.1, ← HEQ.out.2.2, ← HEQ.out.2.1]
          obtain ⟨q0, q1⟩ := box_two HB1.out
          go_wp2_with (go_at_call 28; (with_reducible refine (HRT.out _ HO.out).mono ?_); rintro e w3 ⟨rfl, ho⟩; have HB23 := Lib.hid (HB2.out.later ho); have HO3 := Lib.hid (on_new HO.out ho); obtain ⟨r30, r31⟩ := box_two HB23.out; have g30 := HB23.out.frozen 0; have g31 := HB23.out.frozen 1; clear ho)
          have HF1 : Hid (Blk ((w3.setCell ⟨b2, 0, none⟩ (.slice none 0 0)).setCell ⟨b2, 1, none⟩ (.int .i64 0)) b2 39 [.slice none 0 0, .int .i64 0]) := Lib.hid ((HB23.out.set_ 0 _).set_ 1 _)
          have HF3 : Hid (Only (w.heap.size ≤ ·) w ((w3.setCell ⟨b2, 0, none⟩ (.slice none 0 0)).setCell ⟨b2, 1, none⟩ (.int .i64 0))) := Lib.hid ((HO3.out.setCell (p := ⟨b2, 0, none⟩) HBN.out _).setCell (p := ⟨b2, 1, none⟩) HBN.out _)
          exact bodyPost_ret (v := .tuple #[.agg #[.slice none 0 0, .int .i64 0], .bool false]) (results_cell2 rfl rfl rfl (load_pool HF1.out)) rfl ⟨rfl, HF3.out⟩
  · have HR := Lib.hid hr
    replace HRT : Hid (∀ W, Only (w.heap.size ≤ ·) w W → Calls Tryz.prog 28 #[.agg #[.slice A nn cc, .slice B mm dd]] W (Told W (.bool false))) := Lib.hid fun W hW => (HRT.out W hW).mono fun e w' ⟨⟨r, r1, r2⟩, r3⟩ => ⟨by rw [r1, Bool.eq_false_iff.2 fun e => HR.out (r2.1 e)], r3⟩
    clear h hr
    go_enter Tryz.func8, Tryz.ntmps8
    go_upto_region 1 with (fail)
    rw [← HEQ.out.1, ← HEQ.out.2.2, ← HEQ.out.2.1]
    obtain ⟨q0, q1⟩ := box_two HB1.out
    go_wp2_with (go_at_call 28; (with_reducible refine (HRT.out _ HO.out).mono ?_); rintro e w3 ⟨rfl, ho⟩; have HB23 := Lib.hid (HB2.out.later ho); have HO3 := Lib.hid (on_new HO.out ho); obtain ⟨r30, r31⟩ := box_two HB23.out; have g30 := HB23.out.frozen 0; have g31 := HB23.out.frozen 1; clear ho)
    have HF1 : Hid (Blk ((w3.setCell ⟨b2, 0, none⟩ (.slice none 0 0)).setCell ⟨b2, 1, none⟩ (.int .i64 0)) b2 39 [.slice none 0 0, .int .i64 0]) := Lib.hid ((HB23.out.set_ 0 _).set_ 1 _)
    have HF3 : Hid (Only (w.heap.size ≤ ·) w ((w3.setCell ⟨b2, 0, none⟩ (.slice none 0 0)).setCell ⟨b2, 1, none⟩ (.int .i64 0))) := Lib.hid ((HO3.out.setCell (p := ⟨b2, 0, none⟩) HBN.out _).setCell (p := ⟨b2, 1, none⟩) HBN.out _)
    exact bodyPost_ret (v := .tuple #[.agg #[.slice none 0 0, .int .i64 0], .bool false]) (results_cell2 rfl rfl rfl (load_pool HF1.out)) rfl ⟨rfl, HF3.out⟩
end Go.Proofs.YtmadlckladohbaaGreat
