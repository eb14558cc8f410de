/-
  copied.
-/
import Derived.Test.YtnjhpjpeeehagaaTky
set_option linter.unusedVariables false
namespace Go.Proofs.Ytnjhpjpeeehagaa
open Go.RowKit


/-- A node came back, of the call's own. -/
def GaveNK (w : World) (x : Nd) (e : Ending) (w' : World) : Prop := ∃ A n c B m d, e = .returned (.agg #[.bool x.leaf, .slice A n c, .slice B m d]) ∧ NodK w.heap.size none w' x x.leaf (.slice A n c) (.slice B m d) ∧ Only (w.heap.size ≤ ·) w w'
set_option maxRecDepth 100000 in
set_option maxHeartbeats 25600000 in
theorem copied_c (w : World) (A B : Option Addr) (n c m d : Nat) (f : Bool) (x : Nd) (hN : Nod w x f (.slice A n c) (.slice B m d)) (hs : Sml x) :
    Calls Try.prog 54 #[.agg #[.bool f, .slice A n c, .slice B m d]] w (GaveNK w x) := by
  obtain ⟨i1, hi0, hz0, hz1, hz2⟩ := info_parts info_I
  have HI1 := Lib.hid (And.intro hi0 (And.intro hz0 (And.intro hz1 hz2)))
  clear hi0 hz0 hz1 hz2
  obtain ⟨i2, hi0, hz0, hz1, hz2⟩ := info_parts info_K
  have HI2 := Lib.hid (And.intro hi0 (And.intro hz0 (And.intro hz1 hz2)))
  clear hi0 hz0 hz1 hz2
  have hn1 : n ≤ 1000 := by rw [hN.2.1.len]; exact hs.1
  have hm1 : m ≤ 1000 := by rw [hN.2.2.len]; exact hs.2.1
  have HNL := Lib.hid hN.2.1.len
  have HML := Lib.hid hN.2.2.len
  have HFL := Lib.hid hN.1
  have HN := Lib.hid hN
  have HS := Lib.hid hs
  clear hN hs
  obtain ⟨wm, hwm⟩ : ∃ wm, wm = (((w.alloc (.cells #[.bool f, .slice A n c, .slice B m d] 55)).alloc (.cells #[.bool false, .slice none 0 0, .slice none 0 0] 55)).alloc (.cells #[.bool f, .slice none 0 0, .slice none 0 0] 55)) := ⟨_, rfl⟩
  have HOM1 : Hid (Only (w.heap.size ≤ ·) w wm) := Lib.hid (by rw [hwm]; exact (((Only.refl _ w).alloc (fun _ h => h) _).alloc (fun _ h => h) _).alloc (fun _ h => h) _)
  obtain ⟨b1, hb1⟩ : ∃ b1, b1 = w.heap.size := ⟨_, rfl⟩
  obtain ⟨b2, hb2⟩ : ∃ b2, b2 = w.heap.size + 1 := ⟨_, rfl⟩
  obtain ⟨b3, hb3⟩ : ∃ b3, b3 = w.heap.size + 1 + 1 := ⟨_, rfl⟩
  have HZ : Hid (wm.heap.size = w.heap.size + 3) := Lib.hid (by rw [hwm]; simp)
  have HBX : Hid (Blk wm b1 55 [.bool f, .slice A n c, .slice B m d]) := Lib.hid (by rw [hwm, hb1]; exact ((Blk.new w 55 _).alloc _).alloc _)
  have HBR : Hid (Blk wm b2 55 [.bool false, .slice none 0 0, .slice none 0 0]) := Lib.hid (by
    rw [hwm, hb2]
    have := (Blk.new (w.alloc (.cells #[.bool f, .slice A n c, .slice B m d] 55)) 55 [.bool false, .slice none 0 0, .slice none 0 0]).alloc (.cells #[.bool f, .slice none 0 0, .slice none 0 0] 55)
    simpa using this)
  have HBT : Hid (Blk wm b3 55 [.bool f, .slice none 0 0, .slice none 0 0]) := Lib.hid (by
    rw [hwm, hb3]
    have := Blk.new ((w.alloc (.cells #[.bool f, .slice A n c, .slice B m d] 55)).alloc (.cells #[.bool false, .slice none 0 0, .slice none 0 0] 55)) 55 [.bool f, .slice none 0 0, .slice none 0 0]
    simpa using this)
  have HBN : Hid (w.heap.size ≤ b1 ∧ b1 < b2 ∧ b2 < b3 ∧ b3 < wm.heap.size) := Lib.hid (by have := HZ.out; omega)
  have HWM : Hid (wm = (((w.alloc (.cells #[.bool f, .slice A n c, .slice B m d] 55)).alloc (.cells #[.bool false, .slice none 0 0, .slice none 0 0] 55)).alloc (.cells #[.bool f, .slice none 0 0, .slice none 0 0] 55)) ∧ b1 = w.heap.size ∧ b2 = w.heap.size + 1 ∧ b3 = w.heap.size + 1 + 1) := Lib.hid ⟨hwm, hb1, hb2, hb3⟩
  clear hwm hb1 hb2 hb3
  go_enter Try.func54, Try.ntmps54
  go_upto_region 2 with (fail)
  rw [← HWM.out.1, ← HWM.out.2.2.2, ← HWM.out.2.2.1, ← HWM.out.2.1]
  obtain ⟨x0, x1, x2⟩ := HBX.out.tri
  go_wp2_with (fail)
  clear x0 x1 x2
  go_loopg [14] n (fun gk i wr => ∃ (k : Nat) (R : Option Addr) (t : Nat), gk = n - k ∧ k ≤ n ∧ i = .int .i64 k ∧ Hid (Gro itEk 39 wm b3 55 [.bool f, .slice R k t, .slice none 0 0] (.slice R k t) k (x.its.take k) wr))
  case atStart => exact ⟨0, none, 0, rfl, Nat.zero_le _, rfl, Lib.hid (Gro.start HBT.out)⟩
  case round =>
    obtain ⟨k, R, t, rfl, hk, rfl, HU⟩ := hrel
    obtain ⟨C, hkl, hbt, hrow, hden, hon⟩ := HU.out
    have HKL := Lib.hid hkl
    have HROW := Lib.hid hrow
    have HDEN := Lib.hid hden
    have HON := Lib.hid hon
    have HB3 := Lib.hid hbt
    have HO : Hid (Only (w.heap.size ≤ ·) w wr) := Lib.hid (HOM1.out.trans (hon.mono fun j hj => by have := HBN.out; have := HZ.out; rcases hj with hj | hj <;> omega))
    clear hkl hbt hrow hden hon HU
    by_cases hlt : k < n
    · obtain ⟨b, off, y, P, Q, p, q, rfl, hb, hy, q0, q1, q2, q3, hs1, hs2⟩ := its_at (HN.out.2.1.later HO.out) hlt
      have HY := Lib.hid hy
      have HLEN := Lib.hid (HS.out.2.2.1 y (List.mem_of_getElem? hy))
      have HTK : Hid (x.its.take (k + 1) = x.its.take k ++ [y]) := Lib.hid (by rw [List.take_add_one, hy]; rfl)
      obtain ⟨yk, yv, ys, yr⟩ := y
      simp only at q0 q1 q2 q3 hs1 hs2
      have HS1 := Lib.hid hs1
      have HS2 := Lib.hid hs2
      have hkc : (k : Int) < (n : Int) := by omega
      clear hy hs1 hs2
      obtain ⟨w5, hw5⟩ : ∃ w5, w5 = wr.alloc (.cells #[.slice P yk.length p, .slice Q yv.length q, .int .i64 ys, .int .i64 yr] 39) := ⟨_, rfl⟩
      obtain ⟨b5, hb5⟩ : ∃ b5, b5 = wr.heap.size := ⟨_, rfl⟩
      have HB5 : Hid (Blk w5 b5 39 [.slice P yk.length p, .slice Q yv.length q, .int .i64 ys, .int .i64 yr]) := Lib.hid (by rw [hw5, hb5]; exact Blk.new wr _ [.slice P yk.length p, .slice Q yv.length q, .int .i64 ys, .int .i64 yr])
      have HX : Hid (Only (wr.heap.size ≤ ·) wr w5) := Lib.hid (by rw [hw5]; exact (Only.refl _ wr).alloc (fun _ h => h) _)
      have HEQ5 : Hid (w5 = wr.alloc (.cells #[.slice P yk.length p, .slice Q yv.length q, .int .i64 ys, .int .i64 yr] 39) ∧ b5 = wr.heap.size) := Lib.hid ⟨hw5, hb5⟩
      replace HS1 := Lib.hid (HS1.out.later HX.out)
      replace HS2 := Lib.hid (HS2.out.later HX.out)
      clear hw5 hb5
      go_upto_region 5 with (fail)
      rw [← HEQ5.out.1, ← HEQ5.out.2]
      clear q0 q1 q2 q3
      obtain ⟨wd, hwd⟩ : ∃ wd, wd = w5.drew := ⟨_, rfl⟩
      replace HX : Hid (Only (wr.heap.size ≤ ·) wr wd) := Lib.hid (by rw [hwd]; exact HX.out.drew)
      replace HB5 : Hid (Blk wd b5 39 _) := Lib.hid (by rw [hwd]; exact HB5.out.drew)
      replace HS1 : Hid (Src wd _ _) := Lib.hid (by rw [hwd]; exact HS1.out.later ((Only.refl _ _).drew))
      replace HS2 : Hid (Src wd _ _) := Lib.hid (by rw [hwd]; exact HS2.out.later ((Only.refl _ _).drew))
      have HLE5 : Hid (b5 < wd.heap.size ∧ wr.heap.size ≤ b5) := Lib.hid ⟨HB5.out.lt, by rw [HEQ5.out.2]; exact Nat.le_refl _⟩
      obtain ⟨c0, c1, c2, c3⟩ := HB5.out.four
      have f0 := HB5.out.frozen 0
      have f1 := HB5.out.frozen 1
      refine wp_region_list (B := [false, false, false, false, false, false, false, false, false, false]) (S := (fun _ => True)) (by kernel_rfl) (by kernel_rfl) (by kernel_rfl) trivial (fun hsel hHeld => ?_)
      rw [← hwd]
      clear hwd
      refine oneA 0 18 hsel (h := ?_)
      simp only [Act.put, List.setIfInBounds_toArray, List.set_cons_zero, List.set_cons_succ]
      refine oneA 3 21 hsel (h := ?_)
      simp only [Act.put, List.setIfInBounds_toArray, List.set_cons_zero, List.set_cons_succ]
      refine wpAnyL_ready (rs := [1, 4]) (by kernel_rfl) (by kernel_rfl) (by simp) ?_
      refine AllReadyL.cons (o := ?_) ?_ (fun K hK => ?_) (AllReadyL.cons (o := ?_) ?_ (fun K hK => ?_) AllReadyL.nil)
      case refine_2 => (simp only [List.getElem?_cons_succ, List.getElem?_cons_zero]; rfl)
      case refine_5 => (simp only [List.getElem?_cons_succ, List.getElem?_cons_zero]; rfl)
      case refine_3 =>
        go_simp
        clear hHeld
        refine hK.out _ _ trivial (fun hHeld => ?_)
        clear hK K
        try simp only [List.set_cons_zero, List.set_cons_succ]
        refine wpAnyL_ready (rs := [2, 4]) (by kernel_rfl) (by kernel_rfl) (by simp) ?_
        refine AllReadyL.cons (o := ?_) ?_ (fun K hK => ?_) (AllReadyL.cons (o := ?_) ?_ (fun K hK => ?_) AllReadyL.nil)
        case refine_2 => (simp only [List.getElem?_cons_succ, List.getElem?_cons_zero]; rfl)
        case refine_5 => (simp only [List.getElem?_cons_succ, List.getElem?_cons_zero]; rfl)
        case refine_3 =>
          go_simp
          (go_at_call 34; (with_reducible refine (Clone_c _ _ yk HS1.out HLEN.out.1).mono ?_); rintro ee w6 ⟨v6, rfl, hv6, ho⟩; (obtain ⟨P6, p6, rfl, hn6⟩ := New.form hv6); have HK6 := Lib.hid hn6; (try replace HK6 := Lib.hid (HK6.out.later ho)); replace HB5 := Lib.hid (HB5.out.later ho); replace HS1 := Lib.hid (HS1.out.later ho); replace HS2 := Lib.hid (HS2.out.later ho); replace HX := Lib.hid (on_new HX.out ho); have HW6 := Lib.hid ho.size; (replace c0 := HB5.out.four.1); (replace c1 := HB5.out.four.2.1); (replace f0 := HB5.out.frozen 0); (replace f1 := HB5.out.frozen 1); clear hn6 hv6 ho)
          go_wp2_with (fail)
          clear hHeld
          refine hK.out _ _ trivial (fun hHeld => ?_)
          clear hK K
          try simp only [List.set_cons_zero, List.set_cons_succ]
          refine wpAnyL_ready (rs := [4]) (by kernel_rfl) (by kernel_rfl) (by simp) ?_
          refine AllReadyL.cons (o := ?_) ?_ (fun K hK => ?_) AllReadyL.nil
          case refine_2 => (simp only [List.getElem?_cons_succ, List.getElem?_cons_zero]; rfl)
          go_simp
          clear hHeld
          refine hK.out _ _ trivial (fun hHeld => ?_)
          clear hK K
          try simp only [List.set_cons_zero, List.set_cons_succ]
          refine oneA 6 24 hsel (h := ?_)
          simp only [Act.put, List.setIfInBounds_toArray, List.set_cons_zero, List.set_cons_succ]
          refine wpAnyL_ready (rs := [5]) (by kernel_rfl) (by kernel_rfl) (by simp) ?_
          refine AllReadyL.cons (o := ?_) ?_ (fun K hK => ?_) AllReadyL.nil
          case refine_2 => (simp only [List.getElem?_cons_succ, List.getElem?_cons_zero]; rfl)
          go_simp
          (go_at_call 34; (with_reducible refine (Clone_c _ _ yv HS2.out HLEN.out.2).mono ?_); rintro ee w6 ⟨v6, rfl, hv6, ho⟩; (obtain ⟨P8, p8, rfl, hn6⟩ := New.form hv6); have HK8 := Lib.hid hn6; (try replace HK6 := Lib.hid (HK6.out.later ho)); replace HB5 := Lib.hid (HB5.out.later ho); replace HS1 := Lib.hid (HS1.out.later ho); replace HS2 := Lib.hid (HS2.out.later ho); replace HX := Lib.hid (on_new HX.out ho); have HW8 := Lib.hid ho.size; (replace c0 := HB5.out.four.1); (replace c1 := HB5.out.four.2.1); (replace f0 := HB5.out.frozen 0); (replace f1 := HB5.out.frozen 1); clear hn6 hv6 ho)
          go_wp2_with (fail)
          clear hHeld
          refine hK.out _ _ trivial (fun hHeld => ?_)
          clear hK K
          try simp only [List.set_cons_zero, List.set_cons_succ]
          refine wpAnyL_ready (rs := [7]) (by kernel_rfl) (by kernel_rfl) (by simp) ?_
          refine AllReadyL.cons (o := ?_) ?_ (fun K hK => ?_) AllReadyL.nil
          case refine_2 => (simp only [List.getElem?_cons_succ, List.getElem?_cons_zero]; rfl)
          go_simp
          clear hHeld
          refine hK.out _ _ trivial (fun hHeld => ?_)
          clear hK K
          try simp only [List.set_cons_zero, List.set_cons_succ]
          refine oneA 8 25 hsel (h := ?_)
          simp only [Act.put, List.setIfInBounds_toArray, List.set_cons_zero, List.set_cons_succ]
          refine wpAnyL_ready (rs := [9]) (by kernel_rfl) (by kernel_rfl) (by simp) ?_
          refine AllReadyL.cons (o := ?_) ?_ (fun K hK => ?_) AllReadyL.nil
          case refine_2 => (simp only [List.getElem?_cons_succ, List.getElem?_cons_zero]; rfl)
          go_simp
          clear hHeld
          refine hK.out _ _ trivial (fun hHeld => ?_)
          clear hK K
          try simp only [List.set_cons_zero, List.set_cons_succ]
          refine wpAnyL_done (by kernel_rfl) (by kernel_rfl) ?_ _
          clear hsel hHeld
          obtain ⟨w7, hw7⟩ : ∃ w7, w7 = (w6.setCell ⟨b5, 0, none⟩ (.slice P6 yk.length p6)).setCell ⟨b5, 1, none⟩ (.slice P8 yv.length p8) := ⟨_, rfl⟩
          have HWR : Hid (Only (· = b5) w6 w7) := Lib.hid (by rw [hw7]; exact ((Only.refl (· = b5) w6).setCell (p := ⟨b5, 0, none⟩) rfl _).setCell (p := ⟨b5, 1, none⟩) rfl _)
          replace HB5 : Hid (Blk w7 b5 39 [.slice P6 yk.length p6, .slice P8 yv.length p8, .int .i64 ys, .int .i64 yr]) := Lib.hid (by rw [hw7]; exact (HB5.out.set_ 0 _).set_ 1 _)
          replace HX := Lib.hid (HX.out.trans (HWR.out.mono fun j hj => by rw [hj]; exact HLE5.out.2))
          have HKY : Hid (KeyAt wr.heap.size w7 (some b5) (.slice P6 yk.length p6) yk) := Lib.hid ((HK6.out.keep HWR.out (fun j h1 h2 e => by have := HLE5.out.1; omega)).key (Nat.le_trans HLE5.out.2 (Nat.le_of_lt HLE5.out.1)) (fun j e => .inl (by cases e; exact HLE5.out.1)))
          have HKZ : Hid (KeyAt wr.heap.size w7 (some b5) (.slice P8 yv.length p8) yv) := Lib.hid (((HK8.out.mono (b' := wd.heap.size) HW6.out).keep HWR.out (fun j h1 h2 e => by have := HLE5.out.1; omega)).key (Nat.le_trans HLE5.out.2 (Nat.le_of_lt HLE5.out.1)) (fun j e => .inl (by cases e; exact HLE5.out.1)))
          clear c0 c1 c2 c3 f0 f1
          rw [← hw7]
          clear hw7
          have HB37 := Lib.hid (HB3.out.later HX.out)
          have HROW7 := Lib.hid (own_later HROW.out HX.out)
          obtain ⟨c0, c1, c2, c3⟩ := HB5.out.four
          obtain ⟨o0, o1, o2⟩ := HB37.out.tri
          have HBL : Hid (Blk (w7.alloc (.cells #[.slice P6 yk.length p6, .slice P8 yv.length p8, .int .i64 ys, .int .i64 yr] 39)) w7.heap.size 39 [.slice P6 yk.length p6, .slice P8 yv.length p8, .int .i64 ys, .int .i64 yr]) := Lib.hid (Blk.new w7 _ _)
          go_wp2_with (at_builtin; refine wpList_append_at rfl (.tmp 27) (.tmp 29) 52 rfl wm.heap.size 39 i1 zI 4 64 Try.underlying52 HI1.out.1 HI1.out.2.1 HI1.out.2.2.1 HI1.out.2.2.2 (by rfl) (by omega) (.slice R k t) k C rfl (World.ownsRow.alloc HROW7.out _) ⟨w7.heap.size, 0, none⟩ 1 1 [.slice P6 yk.length p6, .slice P8 yv.length p8, .int .i64 ys, .int .i64 yr] rfl rfl (fun j u hu => by rw [Addr.add_lit, HBL.out.cell, Nat.zero_add]; exact hu) (by simp [Value.oneCell']) (by simp only [maxLen]; omega) (by omega) (by have := HON.out.size; have := HX.out.size; simp; omega) ?_; intro v' w' ho' hg' hat'; (obtain ⟨R2, t2, rfl, _⟩ := raw_of_own ho'); have HB' := Lib.hid ((HB37.out.alloc (.cells #[.slice P6 yk.length p6, .slice P8 yv.length p8, .int .i64 ys, .int .i64 yr] 39)).grown hg' (own_ne HROW7.out HB37.out (by decide))); (obtain ⟨oo0, oo1, oo2⟩ := HB'.out.tri); (obtain ⟨fo0, fo1, fo2⟩ := HB'.out.melt3); have HST : Hid _ := Lib.hid (Gro.step (Y := itEk) (x := (yk, yv, ys, yr)) (ob0 := some b5) 1 HKL.out HB3.out HROW.out HDEN.out HON.out HBN.out.2.2.2 HX.out ⟨P6, p6, P8, p8, rfl, HKY.out, HKZ.out⟩ hg' ho' hat'); clear ho' hg' hat')
          go_roundg (n - (k + 1))
          case measure => omega
          case rel => exact ⟨k + 1, R2, t2, rfl, by omega, by go_num, Lib.hid (by rw [HTK.out]; exact HST.out)⟩
        case refine_6 =>
          go_simp
          clear hHeld
          refine hK.out _ _ trivial (fun hHeld => ?_)
          clear hK K
          try simp only [List.set_cons_zero, List.set_cons_succ]
          refine wpAnyL_ready (rs := [2]) (by kernel_rfl) (by kernel_rfl) (by simp) ?_
          refine AllReadyL.cons (o := ?_) ?_ (fun K hK => ?_) AllReadyL.nil
          case refine_2 => (simp only [List.getElem?_cons_succ, List.getElem?_cons_zero]; rfl)
          go_simp
          (go_at_call 34; (with_reducible refine (Clone_c _ _ yk HS1.out HLEN.out.1).mono ?_); rintro ee w6 ⟨v6, rfl, hv6, ho⟩; (obtain ⟨P6, p6, rfl, hn6⟩ := New.form hv6); have HK6 := Lib.hid hn6; (try replace HK6 := Lib.hid (HK6.out.later ho)); replace HB5 := Lib.hid (HB5.out.later ho); replace HS1 := Lib.hid (HS1.out.later ho); replace HS2 := Lib.hid (HS2.out.later ho); replace HX := Lib.hid (on_new HX.out ho); have HW6 := Lib.hid ho.size; (replace c0 := HB5.out.four.1); (replace c1 := HB5.out.four.2.1); (replace f0 := HB5.out.frozen 0); (replace f1 := HB5.out.frozen 1); clear hn6 hv6 ho)
          go_wp2_with (fail)
          clear hHeld
          refine hK.out _ _ trivial (fun hHeld => ?_)
          clear hK K
          try simp only [List.set_cons_zero, List.set_cons_succ]
          refine oneA 6 24 hsel (h := ?_)
          simp only [Act.put, List.setIfInBounds_toArray, List.set_cons_zero, List.set_cons_succ]
          refine wpAnyL_ready (rs := [5]) (by kernel_rfl) (by kernel_rfl) (by simp) ?_
          refine AllReadyL.cons (o := ?_) ?_ (fun K hK => ?_) AllReadyL.nil
          case refine_2 => (simp only [List.getElem?_cons_succ, List.getElem?_cons_zero]; rfl)
          go_simp
          (go_at_call 34; (with_reducible refine (Clone_c _ _ yv HS2.out HLEN.out.2).mono ?_); rintro ee w6 ⟨v6, rfl, hv6, ho⟩; (obtain ⟨P8, p8, rfl, hn6⟩ := New.form hv6); have HK8 := Lib.hid hn6; (try replace HK6 := Lib.hid (HK6.out.later ho)); replace HB5 := Lib.hid (HB5.out.later ho); replace HS1 := Lib.hid (HS1.out.later ho); replace HS2 := Lib.hid (HS2.out.later ho); replace HX := Lib.hid (on_new HX.out ho); have HW8 := Lib.hid ho.size; (replace c0 := HB5.out.four.1); (replace c1 := HB5.out.four.2.1); (replace f0 := HB5.out.frozen 0); (replace f1 := HB5.out.frozen 1); clear hn6 hv6 ho)
          go_wp2_with (fail)
          clear hHeld
          refine hK.out _ _ trivial (fun hHeld => ?_)
          clear hK K
          try simp only [List.set_cons_zero, List.set_cons_succ]
          refine wpAnyL_ready (rs := [7]) (by kernel_rfl) (by kernel_rfl) (by simp) ?_
          refine AllReadyL.cons (o := ?_) ?_ (fun K hK => ?_) AllReadyL.nil
          case refine_2 => (simp only [List.getElem?_cons_succ, List.getElem?_cons_zero]; rfl)
          go_simp
          clear hHeld
          refine hK.out _ _ trivial (fun hHeld => ?_)
          clear hK K
          try simp only [List.set_cons_zero, List.set_cons_succ]
          refine oneA 8 25 hsel (h := ?_)
          simp only [Act.put, List.setIfInBounds_toArray, List.set_cons_zero, List.set_cons_succ]
          refine wpAnyL_ready (rs := [9]) (by kernel_rfl) (by kernel_rfl) (by simp) ?_
          refine AllReadyL.cons (o := ?_) ?_ (fun K hK => ?_) AllReadyL.nil
          case refine_2 => (simp only [List.getElem?_cons_succ, List.getElem?_cons_zero]; rfl)
          go_simp
          clear hHeld
          refine hK.out _ _ trivial (fun hHeld => ?_)
          clear hK K
          try simp only [List.set_cons_zero, List.set_cons_succ]
          refine wpAnyL_done (by kernel_rfl) (by kernel_rfl) ?_ _
          clear hsel hHeld
          obtain ⟨w7, hw7⟩ : ∃ w7, w7 = (w6.setCell ⟨b5, 0, none⟩ (.slice P6 yk.length p6)).setCell ⟨b5, 1, none⟩ (.slice P8 yv.length p8) := ⟨_, rfl⟩
          have HWR : Hid (Only (· = b5) w6 w7) := Lib.hid (by rw [hw7]; exact ((Only.refl (· = b5) w6).setCell (p := ⟨b5, 0, none⟩) rfl _).setCell (p := ⟨b5, 1, none⟩) rfl _)
          replace HB5 : Hid (Blk w7 b5 39 [.slice P6 yk.length p6, .slice P8 yv.length p8, .int .i64 ys, .int .i64 yr]) := Lib.hid (by rw [hw7]; exact (HB5.out.set_ 0 _).set_ 1 _)
          replace HX := Lib.hid (HX.out.trans (HWR.out.mono fun j hj => by rw [hj]; exact HLE5.out.2))
          have HKY : Hid (KeyAt wr.heap.size w7 (some b5) (.slice P6 yk.length p6) yk) := Lib.hid ((HK6.out.keep HWR.out (fun j h1 h2 e => by have := HLE5.out.1; omega)).key (Nat.le_trans HLE5.out.2 (Nat.le_of_lt HLE5.out.1)) (fun j e => .inl (by cases e; exact HLE5.out.1)))
          have HKZ : Hid (KeyAt wr.heap.size w7 (some b5) (.slice P8 yv.length p8) yv) := Lib.hid (((HK8.out.mono (b' := wd.heap.size) HW6.out).keep HWR.out (fun j h1 h2 e => by have := HLE5.out.1; omega)).key (Nat.le_trans HLE5.out.2 (Nat.le_of_lt HLE5.out.1)) (fun j e => .inl (by cases e; exact HLE5.out.1)))
          clear c0 c1 c2 c3 f0 f1
          rw [← hw7]
          clear hw7
          have HB37 := Lib.hid (HB3.out.later HX.out)
          have HROW7 := Lib.hid (own_later HROW.out HX.out)
          obtain ⟨c0, c1, c2, c3⟩ := HB5.out.four
          obtain ⟨o0, o1, o2⟩ := HB37.out.tri
          have HBL : Hid (Blk (w7.alloc (.cells #[.slice P6 yk.length p6, .slice P8 yv.length p8, .int .i64 ys, .int .i64 yr] 39)) w7.heap.size 39 [.slice P6 yk.length p6, .slice P8 yv.length p8, .int .i64 ys, .int .i64 yr]) := Lib.hid (Blk.new w7 _ _)
          go_wp2_with (at_builtin; refine wpList_append_at rfl (.tmp 27) (.tmp 29) 52 rfl wm.heap.size 39 i1 zI 4 64 Try.underlying52 HI1.out.1 HI1.out.2.1 HI1.out.2.2.1 HI1.out.2.2.2 (by rfl) (by omega) (.slice R k t) k C rfl (World.ownsRow.alloc HROW7.out _) ⟨w7.heap.size, 0, none⟩ 1 1 [.slice P6 yk.length p6, .slice P8 yv.length p8, .int .i64 ys, .int .i64 yr] rfl rfl (fun j u hu => by rw [Addr.add_lit, HBL.out.cell, Nat.zero_add]; exact hu) (by simp [Value.oneCell']) (by simp only [maxLen]; omega) (by omega) (by have := HON.out.size; have := HX.out.size; simp; omega) ?_; intro v' w' ho' hg' hat'; (obtain ⟨R2, t2, rfl, _⟩ := raw_of_own ho'); have HB' := Lib.hid ((HB37.out.alloc (.cells #[.slice P6 yk.length p6, .slice P8 yv.length p8, .int .i64 ys, .int .i64 yr] 39)).grown hg' (own_ne HROW7.out HB37.out (by decide))); (obtain ⟨oo0, oo1, oo2⟩ := HB'.out.tri); (obtain ⟨fo0, fo1, fo2⟩ := HB'.out.melt3); have HST : Hid _ := Lib.hid (Gro.step (Y := itEk) (x := (yk, yv, ys, yr)) (ob0 := some b5) 1 HKL.out HB3.out HROW.out HDEN.out HON.out HBN.out.2.2.2 HX.out ⟨P6, p6, P8, p8, rfl, HKY.out, HKZ.out⟩ hg' ho' hat'); clear ho' hg' hat')
          go_roundg (n - (k + 1))
          case measure => omega
          case rel => exact ⟨k + 1, R2, t2, rfl, by omega, by go_num, Lib.hid (by rw [HTK.out]; exact HST.out)⟩
      case refine_6 =>
        go_simp
        clear hHeld
        refine hK.out _ _ trivial (fun hHeld => ?_)
        clear hK K
        try simp only [List.set_cons_zero, List.set_cons_succ]
        refine wpAnyL_ready (rs := [1]) (by kernel_rfl) (by kernel_rfl) (by simp) ?_
        refine AllReadyL.cons (o := ?_) ?_ (fun K hK => ?_) AllReadyL.nil
        case refine_2 => (simp only [List.getElem?_cons_succ, List.getElem?_cons_zero]; rfl)
        go_simp
        clear hHeld
        refine hK.out _ _ trivial (fun hHeld => ?_)
        clear hK K
        try simp only [List.set_cons_zero, List.set_cons_succ]
        refine wpAnyL_ready (rs := [2]) (by kernel_rfl) (by kernel_rfl) (by simp) ?_
        refine AllReadyL.cons (o := ?_) ?_ (fun K hK => ?_) AllReadyL.nil
        case refine_2 => (simp only [List.getElem?_cons_succ, List.getElem?_cons_zero]; rfl)
        go_simp
        (go_at_call 34; (with_reducible refine (Clone_c _ _ yk HS1.out HLEN.out.1).mono ?_); rintro ee w6 ⟨v6, rfl, hv6, ho⟩; (obtain ⟨P6, p6, rfl, hn6⟩ := New.form hv6); have HK6 := Lib.hid hn6; (try replace HK6 := Lib.hid (HK6.out.later ho)); replace HB5 := Lib.hid (HB5.out.later ho); replace HS1 := Lib.hid (HS1.out.later ho); replace HS2 := Lib.hid (HS2.out.later ho); replace HX := Lib.hid (on_new HX.out ho); have HW6 := Lib.hid ho.size; (replace c0 := HB5.out.four.1); (replace c1 := HB5.out.four.2.1); (replace f0 := HB5.out.frozen 0); (replace f1 := HB5.out.frozen 1); clear hn6 hv6 ho)
        go_wp2_with (fail)
        clear hHeld
        refine hK.out _ _ trivial (fun hHeld => ?_)
        clear hK K
        try simp only [List.set_cons_zero, List.set_cons_succ]
        refine oneA 6 24 hsel (h := ?_)
        simp only [Act.put, List.setIfInBounds_toArray, List.set_cons_zero, List.set_cons_succ]
        refine wpAnyL_ready (rs := [5]) (by kernel_rfl) (by kernel_rfl) (by simp) ?_
        refine AllReadyL.cons (o := ?_) ?_ (fun K hK => ?_) AllReadyL.nil
        case refine_2 => (simp only [List.getElem?_cons_succ, List.getElem?_cons_zero]; rfl)
        go_simp
        (go_at_call 34; (with_reducible refine (Clone_c _ _ yv HS2.out HLEN.out.2).mono ?_); rintro ee w6 ⟨v6, rfl, hv6, ho⟩; (obtain ⟨P8, p8, rfl, hn6⟩ := New.form hv6); have HK8 := Lib.hid hn6; (try replace HK6 := Lib.hid (HK6.out.later ho)); replace HB5 := Lib.hid (HB5.out.later ho); replace HS1 := Lib.hid (HS1.out.later ho); replace HS2 := Lib.hid (HS2.out.later ho); replace HX := Lib.hid (on_new HX.out ho); have HW8 := Lib.hid ho.size; (replace c0 := HB5.out.four.1); (replace c1 := HB5.out.four.2.1); (replace f0 := HB5.out.frozen 0); (replace f1 := HB5.out.frozen 1); clear hn6 hv6 ho)
        go_wp2_with (fail)
        clear hHeld
        refine hK.out _ _ trivial (fun hHeld => ?_)
        clear hK K
        try simp only [List.set_cons_zero, List.set_cons_succ]
        refine wpAnyL_ready (rs := [7]) (by kernel_rfl) (by kernel_rfl) (by simp) ?_
        refine AllReadyL.cons (o := ?_) ?_ (fun K hK => ?_) AllReadyL.nil
        case refine_2 => (simp only [List.getElem?_cons_succ, List.getElem?_cons_zero]; rfl)
        go_simp
        clear hHeld
        refine hK.out _ _ trivial (fun hHeld => ?_)
        clear hK K
        try simp only [List.set_cons_zero, List.set_cons_succ]
        refine oneA 8 25 hsel (h := ?_)
        simp only [Act.put, List.setIfInBounds_toArray, List.set_cons_zero, List.set_cons_succ]
        refine wpAnyL_ready (rs := [9]) (by kernel_rfl) (by kernel_rfl) (by simp) ?_
        refine AllReadyL.cons (o := ?_) ?_ (fun K hK => ?_) AllReadyL.nil
        case refine_2 => (simp only [List.getElem?_cons_succ, List.getElem?_cons_zero]; rfl)
        go_simp
        clear hHeld
        refine hK.out _ _ trivial (fun hHeld => ?_)
        clear hK K
        try simp only [List.set_cons_zero, List.set_cons_succ]
        refine wpAnyL_done (by kernel_rfl) (by kernel_rfl) ?_ _
        clear hsel hHeld
        obtain ⟨w7, hw7⟩ : ∃ w7, w7 = (w6.setCell ⟨b5, 0, none⟩ (.slice P6 yk.length p6)).setCell ⟨b5, 1, none⟩ (.slice P8 yv.length p8) := ⟨_, rfl⟩
        have HWR : Hid (Only (· = b5) w6 w7) := Lib.hid (by rw [hw7]; exact ((Only.refl (· = b5) w6).setCell (p := ⟨b5, 0, none⟩) rfl _).setCell (p := ⟨b5, 1, none⟩) rfl _)
        replace HB5 : Hid (Blk w7 b5 39 [.slice P6 yk.length p6, .slice P8 yv.length p8, .int .i64 ys, .int .i64 yr]) := Lib.hid (by rw [hw7]; exact (HB5.out.set_ 0 _).set_ 1 _)
        replace HX := Lib.hid (HX.out.trans (HWR.out.mono fun j hj => by rw [hj]; exact HLE5.out.2))
        have HKY : Hid (KeyAt wr.heap.size w7 (some b5) (.slice P6 yk.length p6) yk) := Lib.hid ((HK6.out.keep HWR.out (fun j h1 h2 e => by have := HLE5.out.1; omega)).key (Nat.le_trans HLE5.out.2 (Nat.le_of_lt HLE5.out.1)) (fun j e => .inl (by cases e; exact HLE5.out.1)))
        have HKZ : Hid (KeyAt wr.heap.size w7 (some b5) (.slice P8 yv.length p8) yv) := Lib.hid (((HK8.out.mono (b' := wd.heap.size) HW6.out).keep HWR.out (fun j h1 h2 e => by have := HLE5.out.1; omega)).key (Nat.le_trans HLE5.out.2 (Nat.le_of_lt HLE5.out.1)) (fun j e => .inl (by cases e; exact HLE5.out.1)))
        clear c0 c1 c2 c3 f0 f1
        rw [← hw7]
        clear hw7
        have HB37 := Lib.hid (HB3.out.later HX.out)
        have HROW7 := Lib.hid (own_later HROW.out HX.out)
        obtain ⟨c0, c1, c2, c3⟩ := HB5.out.four
        obtain ⟨o0, o1, o2⟩ := HB37.out.tri
        have HBL : Hid (Blk (w7.alloc (.cells #[.slice P6 yk.length p6, .slice P8 yv.length p8, .int .i64 ys, .int .i64 yr] 39)) w7.heap.size 39 [.slice P6 yk.length p6, .slice P8 yv.length p8, .int .i64 ys, .int .i64 yr]) := Lib.hid (Blk.new w7 _ _)
        go_wp2_with (at_builtin; refine wpList_append_at rfl (.tmp 27) (.tmp 29) 52 rfl wm.heap.size 39 i1 zI 4 64 Try.underlying52 HI1.out.1 HI1.out.2.1 HI1.out.2.2.1 HI1.out.2.2.2 (by rfl) (by omega) (.slice R k t) k C rfl (World.ownsRow.alloc HROW7.out _) ⟨w7.heap.size, 0, none⟩ 1 1 [.slice P6 yk.length p6, .slice P8 yv.length p8, .int .i64 ys, .int .i64 yr] rfl rfl (fun j u hu => by rw [Addr.add_lit, HBL.out.cell, Nat.zero_add]; exact hu) (by simp [Value.oneCell']) (by simp only [maxLen]; omega) (by omega) (by have := HON.out.size; have := HX.out.size; simp; omega) ?_; intro v' w' ho' hg' hat'; (obtain ⟨R2, t2, rfl, _⟩ := raw_of_own ho'); have HB' := Lib.hid ((HB37.out.alloc (.cells #[.slice P6 yk.length p6, .slice P8 yv.length p8, .int .i64 ys, .int .i64 yr] 39)).grown hg' (own_ne HROW7.out HB37.out (by decide))); (obtain ⟨oo0, oo1, oo2⟩ := HB'.out.tri); (obtain ⟨fo0, fo1, fo2⟩ := HB'.out.melt3); have HST : Hid _ := Lib.hid (Gro.step (Y := itEk) (x := (yk, yv, ys, yr)) (ob0 := some b5) 1 HKL.out HB3.out HROW.out HDEN.out HON.out HBN.out.2.2.2 HX.out ⟨P6, p6, P8, p8, rfl, HKY.out, HKZ.out⟩ hg' ho' hat'); clear ho' hg' hat')
        go_roundg (n - (k + 1))
        case measure => omega
        case rel => exact ⟨k + 1, R2, t2, rfl, by omega, by go_num, Lib.hid (by rw [HTK.out]; exact HST.out)⟩
    · obtain rfl : n = k := by omega
      have hkm : ¬ (n : Int) < (n : Int) := by omega
      have HBN1 := HBN
      have HU1 : Hid (Gro itEk 39 wm b3 55 [.bool f, .slice R n t, .slice none 0 0] (.slice R n t) n (x.its.take n) wr) := Lib.hid ⟨C, HKL.out, HB3.out, HROW.out, HDEN.out, HON.out⟩
      obtain ⟨R1, hR1⟩ : ∃ R1, R1 = R := ⟨_, rfl⟩
      subst hR1
      obtain ⟨t1, ht1⟩ : ∃ t1, t1 = t := ⟨_, rfl⟩
      subst ht1
      obtain ⟨wn, hwn⟩ : ∃ wn, wn = wr := ⟨_, rfl⟩
      subst hwn
      have HBXN := Lib.hid (HBX.out.only HON.out fun h => by have := HBN.out; omega)
      have HBRN := Lib.hid (HBR.out.only HON.out fun h => by have := HBN.out; omega)
      have HLN : Hid (b3 < wn.heap.size ∧ wm.heap.size ≤ wn.heap.size) := Lib.hid ⟨Nat.lt_of_lt_of_le HBN.out.2.2.2 HON.out.size, HON.out.size⟩
      have HOW := HO
      have HBTN := HB3
      obtain ⟨x0, x1, x2⟩ := HBXN.out.tri
      clear HKL HROW HDEN HB3 HON HO
      go_wp2_with (fail)
      clear x0 x1 x2
      go_loopg [36] m (fun gk i wr => ∃ (k : Nat) (R : Option Addr) (t : Nat), gk = m - k ∧ k ≤ m ∧ i = .int .i64 k ∧ Hid (Gro kdEk 97 wn b3 55 [.bool f, .slice R1 n t1, .slice R k t] (.slice R k t) k (x.kds.take k) wr))
      case atStart => exact ⟨0, none, 0, rfl, Nat.zero_le _, rfl, Lib.hid (Gro.start HBTN.out)⟩
      case round =>
        obtain ⟨k, R, t, rfl, hk, rfl, HU⟩ := hrel
        obtain ⟨D, hkl, hbt, hrow, hden, hon⟩ := HU.out
        have HKL := Lib.hid hkl
        have HROW := Lib.hid hrow
        have HDEN := Lib.hid hden
        have HON := Lib.hid hon
        have HB3 := Lib.hid hbt
        have HO : Hid (Only (w.heap.size ≤ ·) w wr) := Lib.hid (HOW.out.trans (hon.mono fun j hj => by have := HBN.out; have := HZ.out; have := HLN.out; rcases hj with hj | hj <;> omega))
        clear hkl hbt hrow hden hon
        by_cases hlt : k < m
        · obtain ⟨b, off, y, P, p, rfl, hb, hy, q0, q1, hs1⟩ := kds_at (HN.out.2.2.later HO.out) hlt
          have HY := Lib.hid hy
          have HLEN := Lib.hid (HS.out.2.2.2 y (List.mem_of_getElem? hy)).1
          have HTK : Hid (x.kds.take (k + 1) = x.kds.take k ++ [y]) := Lib.hid (by rw [List.take_add_one, hy]; rfl)
          obtain ⟨yk, yr⟩ := y
          simp only at q0 q1 hs1
          have HS1 := Lib.hid hs1
          have hkc : (k : Int) < (m : Int) := by omega
          clear hy hs1
          obtain ⟨w5, hw5⟩ : ∃ w5, w5 = wr.alloc (.cells #[.slice P yk.length p, .int .i64 yr] 97) := ⟨_, rfl⟩
          obtain ⟨b5, hb5⟩ : ∃ b5, b5 = wr.heap.size := ⟨_, rfl⟩
          have HB5 : Hid (Blk w5 b5 97 [.slice P yk.length p, .int .i64 yr]) := Lib.hid (by rw [hw5, hb5]; exact Blk.new wr _ [.slice P yk.length p, .int .i64 yr])
          have HX : Hid (Only (wr.heap.size ≤ ·) wr w5) := Lib.hid (by rw [hw5]; exact (Only.refl _ wr).alloc (fun _ h => h) _)
          have HEQ5 : Hid (w5 = wr.alloc (.cells #[.slice P yk.length p, .int .i64 yr] 97) ∧ b5 = wr.heap.size) := Lib.hid ⟨hw5, hb5⟩
          replace HS1 := Lib.hid (HS1.out.later HX.out)
          have HLE5 : Hid (b5 < w5.heap.size ∧ wr.heap.size ≤ b5) := Lib.hid ⟨HB5.out.lt, by rw [hb5]; exact Nat.le_refl _⟩
          clear hw5 hb5
          go_upto_region 11 with (fail)
          rw [← HEQ5.out.1, ← HEQ5.out.2]
          clear q0 q1
          obtain ⟨c0, c1⟩ := HB5.out.pair
          have f0 := HB5.out.frozen 0
          go_upto_region 12 with (go_at_call 34; (with_reducible refine (Clone_c _ _ yk HS1.out HLEN.out).mono ?_); rintro e w6 ⟨v6, rfl, hv6, ho⟩; (obtain ⟨P6, p6, rfl, hn6⟩ := New.form hv6); have HK := Lib.hid hn6; replace HB5 := Lib.hid (HB5.out.later ho); replace HX := Lib.hid (on_new HX.out ho); replace c0 := HB5.out.pair.1; replace c1 := HB5.out.pair.2; replace f0 := HB5.out.frozen 0; have HW5 := Lib.hid ho.size; clear hn6 hv6 ho)
          obtain ⟨w7, hw7⟩ : ∃ w7, w7 = w6.setCell ⟨b5, 0, none⟩ (.slice P6 yk.length p6) := ⟨_, rfl⟩
          have HWR : Hid (Only (· = b5) w6 w7) := Lib.hid (by rw [hw7]; exact (Only.refl (· = b5) w6).setCell (p := ⟨b5, 0, none⟩) rfl _)
          replace HB5 : Hid (Blk w7 b5 97 [.slice P6 yk.length p6, .int .i64 yr]) := Lib.hid (by rw [hw7]; exact HB5.out.set_ 0 _)
          replace HX := Lib.hid (HX.out.trans (HWR.out.mono fun j hj => by rw [hj]; exact HLE5.out.2))
          have HKY : Hid (KeyAt wr.heap.size w7 (some b5) (.slice P6 yk.length p6) yk) := Lib.hid ((HK.out.keep HWR.out (fun j h1 h2 e => by have := HLE5.out.1; omega)).key (Nat.le_trans HLE5.out.2 (Nat.le_of_lt HLE5.out.1)) (fun j e => .inl (by cases e; exact HLE5.out.1)))
          clear c0 c1 f0
          rw [← hw7]
          clear hw7
          have HB37 := Lib.hid (HB3.out.later HX.out)
          have HROW7 := Lib.hid (own_later HROW.out HX.out)
          obtain ⟨c0, c1⟩ := HB5.out.pair
          obtain ⟨o0, o1, o2⟩ := HB37.out.tri
          have HBL : Hid (Blk (w7.alloc (.cells #[.slice P6 yk.length p6, .int .i64 yr] 97)) w7.heap.size 97 [.slice P6 yk.length p6, .int .i64 yr]) := Lib.hid (Blk.new w7 _ [.slice P6 yk.length p6, .int .i64 yr])
          go_wp2_with (at_builtin; go_loud (refine wpList_append_at rfl (.tmp 45) (.tmp 47) 53 rfl wn.heap.size 97 i2 zK 2 32 Try.underlying53 HI2.out.1 HI2.out.2.1 HI2.out.2.2.1 HI2.out.2.2.2 (by rfl) (by omega) (.slice R k t) k D rfl (World.ownsRow.alloc HROW7.out _) ⟨w7.heap.size, 0, none⟩ 1 1 [.slice P6 yk.length p6, .int .i64 yr] rfl rfl (fun j u hu => by rw [Addr.add_lit, HBL.out.cell, Nat.zero_add]; exact hu) (by simp [Value.oneCell']) (by simp only [maxLen]; omega) (by omega) (by have := HON.out.size; have := HX.out.size; simp; omega) ?_; intro v' w' ho' hg' hat'; (obtain ⟨R2, t2, rfl, _⟩ := raw_of_own ho'); have HB' := Lib.hid ((HB37.out.alloc (.cells #[.slice P6 yk.length p6, .int .i64 yr] 97)).grown hg' (own_ne HROW7.out HB37.out (by decide))); (obtain ⟨oo0, oo1, oo2⟩ := HB'.out.tri); (obtain ⟨fo0, fo1, fo2⟩ := HB'.out.melt3); have HST : Hid _ := Lib.hid (Gro.step (Y := kdEk) (x := (yk, yr)) (ob0 := some b5) 2 HKL.out HB3.out HROW.out HDEN.out HON.out HLN.out.1 HX.out ⟨P6, p6, rfl, HKY.out⟩ hg' ho' hat'); clear ho' hg' hat'))
          go_roundg (m - (k + 1))
          case measure => omega
          case rel => exact ⟨k + 1, R2, t2, rfl, by omega, by go_num, Lib.hid (by rw [HTK.out]; exact HST.out)⟩
        · obtain rfl : m = k := by omega
          have hkm : ¬ (m : Int) < (m : Int) := by omega
          have HBR3 := Lib.hid (HBRN.out.only HON.out fun h => by have h1 := HBN.out; have h2 := HLN.out; rcases h with h | h <;> omega)
          obtain ⟨z0, z1, z2⟩ := HBR3.out.tri
          obtain ⟨fz0, fz1, fz2⟩ := HBR3.out.melt3
          obtain ⟨o0, o1, o2⟩ := HB3.out.tri
          go_wp2
          obtain ⟨Wf, hWf⟩ : ∃ Wf, Wf = (((wr.setCell ⟨b2, 0, none⟩ (.bool f)).setCell ⟨b2, 1, none⟩ (.slice R1 n t1)).setCell ⟨b2, 2, none⟩ (.slice R m t)) := ⟨_, rfl⟩
          have hBf : Blk Wf b2 55 [.bool f, .slice R1 n t1, .slice R m t] := by rw [hWf]; exact ((HBR3.out.set_ 0 _).set_ 1 _).set_ 2 _
          have hOs : Only (· = b2) wr Wf := by rw [hWf]; exact (((Only.refl (· = b2) _).setCell (p := ⟨b2, 0, none⟩) rfl _).setCell (p := ⟨b2, 1, none⟩) rfl _).setCell (p := ⟨b2, 2, none⟩) rfl _
          have hOf : Only (w.heap.size ≤ ·) w Wf := HO.out.trans (hOs.mono fun j hj => by have := HBN.out; omega)
          rw [← hWf]
          have hz := HZ.out
          have hb := HBN.out
          have hln := HLN.out
          obtain ⟨C1, hC1⟩ := HU1.out.rwc
          obtain ⟨C2, hC2⟩ := HU.out.rwc
          rw [show x.its.take n = x.its by rw [HNL.out, List.take_length]] at hC1
          rw [show x.kds.take m = x.kds by rw [HML.out, List.take_length]] at hC2
          have r1 : SRw itE (fun j => j < w.heap.size ∨ none = some j) Wf (.slice R1 n t1) x.its := ⟨C1, fun W hW => by
            exact hC1 (fun j => j < wm.heap.size ∨ wn.heap.size ≤ j) W (((HON.out.mono fun j hj => by rcases hj with hj | hj <;> omega).trans (hOs.mono fun j hj => by omega)).trans (hW.mono fun j hj => by
              have h1 := HON.out.size
              have h2 := hOs.size
              rcases hj with (hj | hj) | hj
              · omega
              · cases hj
              · omega)) (fun j hj => hj)⟩
          have r2 : SRw kdE (fun j => j < w.heap.size ∨ none = some j) Wf (.slice R m t) x.kds := ⟨C2, fun W hW => by
            exact hC2 (fun j => j < wn.heap.size ∨ wr.heap.size ≤ j) W ((hOs.mono fun j hj => by omega).trans (hW.mono fun j hj => by
              have h2 := hOs.size
              rcases hj with (hj | hj) | hj
              · omega
              · cases hj
              · omega)) (fun j hj => hj)⟩
          obtain rfl := HFL.out
          exact bodyPost_ret (v := .agg #[.bool x.leaf, .slice R1 n t1, .slice R m t]) (results_cell1 rfl rfl (load_node (.inr rfl) hBf)) rfl ⟨R1, n, t1, R, m, t, rfl, ⟨rfl, r1, r2⟩, hOf⟩
end Go.Proofs.Ytnjhpjpeeehagaa
