/-
  PoolBack: the walk.
-/
import Derived.Test.YtmadlckladohbaaPlw
set_option linter.unusedVariables false
namespace Go.Proofs.Ytmadlckladohbaa
open Go.RowKit Go.Shelf

theorem blk_touch {w w' : World} {pb mb g : Nat} {ty : TypeId} {cs : List Value} (h : Blk w g ty cs) (hp : g < pb ∧ g < mb) (ht : Touch pb mb w w') : Blk w' g ty cs := h.only ht fun hk => by
  have := h.lt
  rcases hk with hk | hk | hk <;> omega

set_option maxRecDepth 100000 in
set_option maxHeartbeats 6400000 in
theorem back_early (w : World) (A B : Option Addr) (nn cc mm dd : Nat) (a b : List R) (t p lim m : Int) (ha : Row w (.slice A nn cc) a) (hb : Row w (.slice B mm dd) b) (hai : ∀ x ∈ a, I64 x) (hbi : ∀ x ∈ b, I64 x) (hla : a.length ≤ 2000000) (hlb : b.length ≤ 2000000) (ht : t ≤ 9223372036854775807) (h : ¬ FewOk a b p [] ∨ m < 1 ∨ 60 < m ∨ 1073741824 < t ∨ ¬ NewOk a b t p lim) :
    Calls Try.prog 6 #[.agg #[.slice A nn cc, .slice B mm dd], .agg #[.int .i64 t, .int .i64 p, .int .i64 lim], .int .i64 m] w (Told w (.bool true)) := by
  obtain ⟨w2, hw2⟩ : ∃ w2, w2 = (w.alloc (.cells #[.slice A nn cc, .slice B mm dd] 40)).alloc (.cells #[.int .i64 t, .int .i64 p, .int .i64 lim] 41) := ⟨_, rfl⟩
  obtain ⟨b1, hb1⟩ : ∃ b1, b1 = w.heap.size := ⟨_, rfl⟩
  obtain ⟨b2, hb2⟩ : ∃ b2, b2 = w.heap.size + 1 := ⟨_, rfl⟩
  have HB1 : Hid (Blk w2 b1 40 [.slice A nn cc, .slice B mm dd]) := Lib.hid (by rw [hw2, hb1]; exact (Blk.new w _ [.slice A nn cc, .slice B mm dd]).alloc _)
  have HB2 : Hid (Blk w2 b2 41 [.int .i64 t, .int .i64 p, .int .i64 lim]) := Lib.hid (by
    rw [hw2, hb2]
    have := Blk.new (w.alloc (.cells #[.slice A nn cc, .slice B mm dd] 40)) 41 [.int .i64 t, .int .i64 p, .int .i64 lim]
    rwa [show (w.alloc (.cells #[.slice A nn cc, .slice B mm dd] 40)).heap.size = w.heap.size + 1 by simp] at this)
  have HO : Hid (Only (w.heap.size ≤ ·) w w2) := Lib.hid (by rw [hw2]; exact ((Only.refl _ w).alloc (fun _ h => h) _).alloc (fun _ h => h) _)
  have HEQ : Hid (w2 = (w.alloc (.cells #[.slice A nn cc, .slice B mm dd] 40)).alloc (.cells #[.int .i64 t, .int .i64 p, .int .i64 lim] 41) ∧ b1 = w.heap.size ∧ b2 = w.heap.size + 1) := Lib.hid ⟨hw2, hb1, hb2⟩
  have HLEN : Hid (a.length ≤ 2000000 ∧ b.length ≤ 2000000) := Lib.hid ⟨hla, hlb⟩
  have HOF : Hid (∀ W, Only (w.heap.size ≤ ·) w W → Calls Try.prog 15 #[.agg #[.slice A nn cc, .slice B mm dd]] W (OfSt W a b)) := Lib.hid fun W hW => pOf_c W A B nn cc mm dd a b (ha.later hW) (hb.later hW) hla hlb
  have HFWS : Hid (∀ W, Only (w.heap.size ≤ ·) w W → Calls Try.prog 14 #[.agg #[.slice A nn cc, .slice B mm dd], .int .i64 p, .slice none 0 0] W (FewSays W a b p [])) := Lib.hid fun W hW => pfew_c W A B none nn cc mm dd 0 0 a b p [] (ha.later hW) (hb.later hW) (Os.nil_ _ _) rfl hla hlb (by decide)
  have HAI := Lib.hid hai
  have HBI := Lib.hid hbi
  clear ha hb hai hbi hla hlb hw2 hb1 hb2
  by_cases hf : FewOk a b p []
  · have HF := Lib.hid hf
    have HFW : Hid (∀ W, Only (w.heap.size ≤ ·) w W → Calls Try.prog 14 #[.agg #[.slice A nn cc, .slice B mm dd], .int .i64 p, .slice none 0 0] W (Told W (.bool true))) := Lib.hid fun W hW => (HFWS.out W hW).mono fun e w' ⟨⟨r, r1, r2⟩, r3⟩ => ⟨by rw [r1, r2.2 HF.out], r3⟩
    by_cases d0 : m < 1
    · have e0 : decide (m < 1) = true := decide_eq_true d0
      clear h hf
      go_enter Try.func6, Try.ntmps6
      go_upto_region 1 with (fail)
      rw [← HEQ.out.1, ← HEQ.out.2.2, ← HEQ.out.2.1]
      obtain ⟨q0, q1⟩ := box_two HB1.out
      obtain ⟨r0, r1, r2⟩ := box_three HB2.out
      go_wp2_with (first
        | (go_at_call 14; (with_reducible refine (HFW.out _ HO.out).mono ?_); rintro e w1 ⟨rfl, ho⟩; replace HB1 := Lib.hid (HB1.out.later ho); replace HB2 := Lib.hid (HB2.out.later ho); replace HO := Lib.hid (on_new HO.out ho); obtain ⟨s0, s1, s2⟩ := box_three HB2.out; clear ho)
        | (go_at_call 7; (with_reducible refine (alive_c _).mono ?_); rintro e w9 ⟨rfl, ho⟩; replace HO := Lib.hid (on_new HO.out ho); clear ho))
      go_ret
      exact ⟨rfl, HO.out⟩
    · have e0 : decide (m < 1) = false := decide_eq_false d0
      by_cases d1 : 60 < m
      · have e1 : decide (60 < m) = true := decide_eq_true d1
        clear h hf
        go_enter Try.func6, Try.ntmps6
        go_upto_region 1 with (fail)
        rw [← HEQ.out.1, ← HEQ.out.2.2, ← HEQ.out.2.1]
        obtain ⟨q0, q1⟩ := box_two HB1.out
        obtain ⟨r0, r1, r2⟩ := box_three HB2.out
        go_wp2_with (first
          | (go_at_call 14; (with_reducible refine (HFW.out _ HO.out).mono ?_); rintro e w1 ⟨rfl, ho⟩; replace HB1 := Lib.hid (HB1.out.later ho); replace HB2 := Lib.hid (HB2.out.later ho); replace HO := Lib.hid (on_new HO.out ho); obtain ⟨s0, s1, s2⟩ := box_three HB2.out; clear ho)
          | (go_at_call 7; (with_reducible refine (alive_c _).mono ?_); rintro e w9 ⟨rfl, ho⟩; replace HO := Lib.hid (on_new HO.out ho); clear ho))
        go_ret
        exact ⟨rfl, HO.out⟩
      · have e1 : decide (60 < m) = false := decide_eq_false d1
        by_cases d2 : 1073741824 < t
        · have e2 : decide (1073741824 < t) = true := decide_eq_true d2
          clear h hf
          go_enter Try.func6, Try.ntmps6
          go_upto_region 1 with (fail)
          rw [← HEQ.out.1, ← HEQ.out.2.2, ← HEQ.out.2.1]
          obtain ⟨q0, q1⟩ := box_two HB1.out
          obtain ⟨r0, r1, r2⟩ := box_three HB2.out
          go_wp2_with (first
            | (go_at_call 14; (with_reducible refine (HFW.out _ HO.out).mono ?_); rintro e w1 ⟨rfl, ho⟩; replace HB1 := Lib.hid (HB1.out.later ho); replace HB2 := Lib.hid (HB2.out.later ho); replace HO := Lib.hid (on_new HO.out ho); obtain ⟨s0, s1, s2⟩ := box_three HB2.out; clear ho)
            | (go_at_call 7; (with_reducible refine (alive_c _).mono ?_); rintro e w9 ⟨rfl, ho⟩; replace HO := Lib.hid (on_new HO.out ho); clear ho))
          go_ret
          exact ⟨rfl, HO.out⟩
        · have e2 : decide (1073741824 < t) = false := decide_eq_false d2
          have HNO : Hid (¬ NewOk a b t p lim) := Lib.hid ((((h.resolve_left (fun h => h hf)).resolve_left d0).resolve_left d1).resolve_left d2)
          clear h hf
          go_enter Try.func6, Try.ntmps6
          go_upto_region 1 with (fail)
          rw [← HEQ.out.1, ← HEQ.out.2.2, ← HEQ.out.2.1]
          obtain ⟨q0, q1⟩ := box_two HB1.out
          obtain ⟨r0, r1, r2⟩ := box_three HB2.out
          go_upto_region 3 with (go_at_call 14; (with_reducible refine (HFW.out _ HO.out).mono ?_); rintro e w1 ⟨rfl, ho⟩; replace HB1 := Lib.hid (HB1.out.later ho); replace HB2 := Lib.hid (HB2.out.later ho); replace HO := Lib.hid (on_new HO.out ho); obtain ⟨s0, s1, s2⟩ := box_three HB2.out; clear ho)
          clear s0 s1 s2
          replace HB1 := Lib.hid HB1.out.drew
          replace HB2 := Lib.hid HB2.out.drew
          replace HO := Lib.hid HO.out.drew
          refine wp_region_list (B := [false, false, false, false, false, false, false, false, false, false, false, false, false, false]) (S := (fun W => (W.cell? ⟨b1, 0, none⟩ = some (.slice A nn cc) ∧ W.cell? ⟨b1, 1, none⟩ = some (.slice B mm dd)) ∧ W.cell? ⟨b2, 0, none⟩ = some (.int .i64 t) ∧ W.cell? ⟨b2, 1, none⟩ = some (.int .i64 p) ∧ W.cell? ⟨b2, 2, none⟩ = some (.int .i64 lim))) (by kernel_rfl) (by kernel_rfl) (by kernel_rfl) ⟨box_two HB1.out, box_three HB2.out⟩ (fun hsel hHeld => ?_)
          generalize hwz : World.drew _ = wz at HB1 HB2 HO hHeld ⊢
          clear hwz
          refine oneA 0 35 hsel (h := ?_)
          simp only [Act.put, List.setIfInBounds_toArray, List.set_cons_zero, List.set_cons_succ]
          refine oneA 2 37 hsel (h := ?_)
          simp only [Act.put, List.setIfInBounds_toArray, List.set_cons_zero, List.set_cons_succ]
          refine oneA 3 38 hsel (h := ?_)
          simp only [Act.put, List.setIfInBounds_toArray, List.set_cons_zero, List.set_cons_succ]
          refine oneA 4 39 hsel (h := ?_)
          simp only [Act.put, List.setIfInBounds_toArray, List.set_cons_zero, List.set_cons_succ]
          refine oneA 5 40 hsel (h := ?_)
          simp only [Act.put, List.setIfInBounds_toArray, List.set_cons_zero, List.set_cons_succ]
          refine oneA 6 41 hsel (h := ?_)
          simp only [Act.put, List.setIfInBounds_toArray, List.set_cons_zero, List.set_cons_succ]
          refine oneA 7 42 hsel (h := ?_)
          simp only [Act.put, List.setIfInBounds_toArray, List.set_cons_zero, List.set_cons_succ]
          refine wpAnyL_ready (rs := [1]) (by kernel_rfl) (by kernel_rfl) (by simp) ?_
          refine AllReadyL.cons (o := ?_) ?_ (fun K hK => ?_) AllReadyL.nil
          case refine_2 => (simp only [List.getElem?_cons_succ, List.getElem?_cons_zero]; rfl)
          go_simp
          (go_at_call 15; (with_reducible refine (HOF.out _ HO.out).mono ?_); rintro ee w5 ⟨A5, n5, c5, B5, m5, d5, rfl, hra, hrb, ho⟩; have HRA := Lib.hid hra; have HRB := Lib.hid hrb; replace HB1 := Lib.hid (HB1.out.later ho); replace HB2 := Lib.hid (HB2.out.later ho); replace HO := Lib.hid (on_new HO.out ho); clear hra hrb ho)
          go_wp2_with (fail)
          clear hHeld
          refine hK.out _ _ ⟨box_two HB1.out, box_three HB2.out⟩ (fun hHeld => ?_)
          clear hK K
          try simp only [Act.put, List.setIfInBounds_toArray, List.set_cons_zero, List.set_cons_succ]
          refine wpAnyL_ready (rs := [8]) (by kernel_rfl) (by kernel_rfl) (by simp) ?_
          refine AllReadyL.cons (o := ?_) ?_ (fun K hK => ?_) AllReadyL.nil
          case refine_2 => (simp only [List.getElem?_cons_succ, List.getElem?_cons_zero]; rfl)
          go_simp
          (go_at_call 8; (with_reducible refine (New_not HRA.out HRB.out HAI.out HBI.out HNO.out).mono ?_); rintro ee w6 ⟨rfl, ho⟩; replace HB1 := Lib.hid (HB1.out.later ho); replace HB2 := Lib.hid (HB2.out.later ho);  replace HO := Lib.hid (on_new HO.out ho); clear ho)
          go_wp2_with (fail)
          clear hHeld
          refine hK.out _ _ ⟨box_two HB1.out, box_three HB2.out⟩ (fun hHeld => ?_)
          clear hK K
          try simp only [Act.put, List.setIfInBounds_toArray, List.set_cons_zero, List.set_cons_succ]
          refine oneA 9 34 hsel (h := ?_)
          simp only [Act.put, List.setIfInBounds_toArray, List.set_cons_zero, List.set_cons_succ]
          refine oneA 10 44 hsel (h := ?_)
          simp only [Act.put, List.setIfInBounds_toArray, List.set_cons_zero, List.set_cons_succ]
          refine oneA 11 45 hsel (h := ?_)
          simp only [Act.put, List.setIfInBounds_toArray, List.set_cons_zero, List.set_cons_succ]
          refine oneA 12 7 hsel (h := ?_)
          simp only [Act.put, List.setIfInBounds_toArray, List.set_cons_zero, List.set_cons_succ]
          refine oneA 13 8 hsel (h := ?_)
          simp only [Act.put, List.setIfInBounds_toArray, List.set_cons_zero, List.set_cons_succ]
          refine wpAnyL_done (by kernel_rfl) (by kernel_rfl) ?_ _
          clear hsel hHeld
          go_wp2_with (go_at_call 7; (with_reducible refine (alive_c _).mono ?_); rintro e w9 ⟨rfl, ho⟩; replace HO := Lib.hid (on_new HO.out ho); clear ho)
          go_ret
          exact ⟨rfl, HO.out⟩
  · have HF := Lib.hid hf
    have HFW : Hid (∀ W, Only (w.heap.size ≤ ·) w W → Calls Try.prog 14 #[.agg #[.slice A nn cc, .slice B mm dd], .int .i64 p, .slice none 0 0] W (Told W (.bool false))) := Lib.hid fun W hW => (HFWS.out W hW).mono fun e w' ⟨⟨r, r1, r2⟩, r3⟩ => ⟨by rw [r1, Bool.eq_false_iff.2 fun e => HF.out (r2.1 e)], r3⟩
    clear h hf
    go_enter Try.func6, Try.ntmps6
    go_upto_region 1 with (fail)
    rw [← HEQ.out.1, ← HEQ.out.2.2, ← HEQ.out.2.1]
    obtain ⟨q0, q1⟩ := box_two HB1.out
    obtain ⟨r0, r1, r2⟩ := box_three HB2.out
    go_wp2_with (first
      | (go_at_call 14; (with_reducible refine (HFW.out _ HO.out).mono ?_); rintro e w1 ⟨rfl, ho⟩; replace HB1 := Lib.hid (HB1.out.later ho); replace HB2 := Lib.hid (HB2.out.later ho); replace HO := Lib.hid (on_new HO.out ho); obtain ⟨s0, s1, s2⟩ := box_three HB2.out; clear ho)
      | (go_at_call 7; (with_reducible refine (alive_c _).mono ?_); rintro e w9 ⟨rfl, ho⟩; replace HO := Lib.hid (on_new HO.out ho); clear ho))
    go_ret
    exact ⟨rfl, HO.out⟩

/-- What stands behind a take, a giving up and a settling. -/
theorem back_took {S : PS} (hok : S.Ok) {fl : List R} (hr : IsRow fl S.F) {t m : Int} {k : Nat} {r : R} (ht : ∀ v q, S.H v q → v ≤ t) (hm : 1 ≤ m) (h0 : 0 ≤ t) (hf : First fl m k r) :
    ¬ GiveArg (TookS S r.1 m) (t + 1) (r.1, m) ∧ Unused (TookS S r.1 m) (r.1, m) ∧ (∀ q, (SettledS (GaveS (TookS S r.1 m) (t + 1) (r.1, m)) (t + 1)).F q ↔ S.F q ∨ ∃ v, S.H v q) ∧ (∀ q, ¬ ∃ v, (SettledS (GaveS (TookS S r.1 m) (t + 1) (r.1, m)) (t + 1)).H v q) := by
  obtain ⟨f1, f2, f3, f4⟩ := first_at hok hr hf
  have hin : ∀ q, within (r.1, m) q → S.F q := fun q hq => f4 q (by unfold within at hq ⊢; simp only at hq; omega)
  refine ⟨?_, fun q hq => ⟨fun h => h.2 hq, fun v hv => hok.apart v q hv (hin q hq)⟩, fun q => ⟨?_, ?_⟩, ?_⟩
  · show ¬ (t + 1 < 0 ∨ r.1 < 2 ∨ m < 1 ∨ S.pages - r.1 < m)
    omega
  · rintro (h | ⟨v, h1, h2⟩)
    · exact .inl h.1
    · rcases h2 with h2 | ⟨_, h2⟩
      · exact .inr ⟨v, h2⟩
      · exact .inl (hin q h2)
  · rintro (h | ⟨v, h⟩)
    · by_cases hw : within (r.1, m) q
      · exact .inr ⟨t + 1, Int.le_refl _, .inr ⟨rfl, hw⟩⟩
      · exact .inl ⟨h, hw⟩
    · exact .inr ⟨v, by have := ht v q h; omega, .inl h⟩
  · rintro q ⟨v, h1, h2⟩
    rcases h2 with h2 | ⟨h2, _⟩
    · have := ht v q h2; omega
    · omega
theorem back_grew {S : PS} (hok : S.Ok) {t m a0 : Int} (ht : ∀ v q, S.H v q → v ≤ t) (hm : 1 ≤ m) (h0 : 0 ≤ t) (hta : IsTail S a0) (hgt : S.pages < a0 + m) :
    ¬ GiveArg (GrewS S a0 m) (t + 1) (a0, m) ∧ Unused (GrewS S a0 m) (a0, m) ∧ (∀ q, (SettledS (GaveS (GrewS S a0 m) (t + 1) (a0, m)) (t + 1)).F q ↔ (S.F q ∨ ∃ v, S.H v q) ∨ within (S.pages, a0 + m - S.pages) q) ∧ (∀ q, ¬ ∃ v, (SettledS (GaveS (GrewS S a0 m) (t + 1) (a0, m)) (t + 1)).H v q) := by
  have ha2 := tail_two hok hta
  obtain ⟨k1, k2, k3, k4⟩ := hta
  refine ⟨?_, fun q hq => ⟨fun h => ?_, fun v hv => ?_⟩, fun q => ⟨?_, ?_⟩, ?_⟩
  · show ¬ (t + 1 < 0 ∨ a0 < 2 ∨ m < 1 ∨ a0 + m - a0 < m)
    omega
  · have := h.2
    unfold within at hq
    simp only at hq
    omega
  · have h3 := (hok.held v q hv).2.2
    unfold within at hq
    simp only at hq
    exact hok.apart v q hv (k1 q hq.1 h3)
  · rintro (h | ⟨v, h1, h2⟩)
    · exact .inl (.inl h.1)
    · rcases h2 with h2 | ⟨_, h2⟩
      · exact .inl (.inr ⟨v, h2⟩)
      · unfold within at h2
        simp only at h2
        by_cases hq : q < S.pages
        · exact .inl (.inl (k1 q h2.1 hq))
        · exact .inr ⟨by show S.pages ≤ q; omega, by show q < S.pages + (a0 + m - S.pages); omega⟩
  · rintro ((h | ⟨v, h⟩) | h)
    · by_cases hw : q < a0
      · exact .inl ⟨h, hw⟩
      · have := (hok.free q h).2
        exact .inr ⟨t + 1, Int.le_refl _, .inr ⟨rfl, by show a0 ≤ q; omega, by show q < a0 + m; omega⟩⟩
    · exact .inr ⟨v, by have := ht v q h; omega, .inl h⟩
    · unfold within at h
      simp only at h
      exact .inr ⟨t + 1, Int.le_refl _, .inr ⟨rfl, by show a0 ≤ q; omega, by show q < a0 + m; omega⟩⟩
  · rintro q ⟨v, h1, h2⟩
    rcases h2 with h2 | ⟨h2, _⟩
    · have := ht v q h2; omega
    · omega
theorem no_row {S : Int → Prop} (h : ∀ q, ¬ S q) : IsRow [] S := ⟨rfl, fun q => ⟨fun hq => by simp [inn] at hq, fun hq => absurd hq (h q)⟩⟩

set_option maxRecDepth 100000 in
set_option maxHeartbeats 12800000 in
theorem back_main (w : World) (A B : Option Addr) (nn cc mm dd : Nat) (a b : List R) (t p lim m : Int) (ha : Row w (.slice A nn cc) a) (hb : Row w (.slice B mm dd) b) (hai : ∀ x ∈ a, I64 x) (hbi : ∀ x ∈ b, I64 x) (hla : a.length ≤ 2000000) (hlb : b.length ≤ 2000000) (ht : t ≤ 9223372036854775807) (hf : FewOk a b p []) (hm1 : 1 ≤ m) (hm2 : m ≤ 60) (htb : t ≤ 1073741824) (hno : NewOk a b t p lim) :
    Calls Try.prog 6 #[.agg #[.slice A nn cc, .slice B mm dd], .agg #[.int .i64 t, .int .i64 p, .int .i64 lim], .int .i64 m] w (Told w (.bool true)) := by
  obtain ⟨w2, hw2⟩ : ∃ w2, w2 = (w.alloc (.cells #[.slice A nn cc, .slice B mm dd] 40)).alloc (.cells #[.int .i64 t, .int .i64 p, .int .i64 lim] 41) := ⟨_, rfl⟩
  obtain ⟨b1, hb1⟩ : ∃ b1, b1 = w.heap.size := ⟨_, rfl⟩
  obtain ⟨b2, hb2⟩ : ∃ b2, b2 = w.heap.size + 1 := ⟨_, rfl⟩
  have HB1 : Hid (Blk w2 b1 40 [.slice A nn cc, .slice B mm dd]) := Lib.hid (by rw [hw2, hb1]; exact (Blk.new w _ [.slice A nn cc, .slice B mm dd]).alloc _)
  have HB2 : Hid (Blk w2 b2 41 [.int .i64 t, .int .i64 p, .int .i64 lim]) := Lib.hid (by
    rw [hw2, hb2]
    have := Blk.new (w.alloc (.cells #[.slice A nn cc, .slice B mm dd] 40)) 41 [.int .i64 t, .int .i64 p, .int .i64 lim]
    rwa [show (w.alloc (.cells #[.slice A nn cc, .slice B mm dd] 40)).heap.size = w.heap.size + 1 by simp] at this)
  have HO : Hid (Only (w.heap.size ≤ ·) w w2) := Lib.hid (by rw [hw2]; exact ((Only.refl _ w).alloc (fun _ h => h) _).alloc (fun _ h => h) _)
  have HEQ : Hid (w2 = (w.alloc (.cells #[.slice A nn cc, .slice B mm dd] 40)).alloc (.cells #[.int .i64 t, .int .i64 p, .int .i64 lim] 41) ∧ b1 = w.heap.size ∧ b2 = w.heap.size + 1) := Lib.hid ⟨hw2, hb1, hb2⟩
  have HLEN : Hid (a.length ≤ 2000000 ∧ b.length ≤ 2000000) := Lib.hid ⟨hla, hlb⟩
  have HOF : Hid (∀ W, Only (w.heap.size ≤ ·) w W → Calls Try.prog 15 #[.agg #[.slice A nn cc, .slice B mm dd]] W (OfSt W a b)) := Lib.hid fun W hW => pOf_c W A B nn cc mm dd a b (ha.later hW) (hb.later hW) hla hlb
  have HFWS : Hid (∀ W, Only (w.heap.size ≤ ·) w W → Calls Try.prog 14 #[.agg #[.slice A nn cc, .slice B mm dd], .int .i64 p, .slice none 0 0] W (FewSays W a b p [])) := Lib.hid fun W hW => pfew_c W A B none nn cc mm dd 0 0 a b p [] (ha.later hW) (hb.later hW) (Os.nil_ _ _) rfl hla hlb (by decide)
  have HAI := Lib.hid hai
  have HBI := Lib.hid hbi
  have HF := Lib.hid hf
  have HFW : Hid (∀ W, Only (w.heap.size ≤ ·) w W → Calls Try.prog 14 #[.agg #[.slice A nn cc, .slice B mm dd], .int .i64 p, .slice none 0 0] W (Told W (.bool true))) := Lib.hid fun W hW => (HFWS.out W hW).mono fun e w' ⟨⟨r, r1, r2⟩, r3⟩ => ⟨by rw [r1, r2.2 HF.out], r3⟩
  have HNO := Lib.hid hno
  have HTB : Hid (t ≤ 9223372036854775807 ∧ 0 ≤ t) := Lib.hid ⟨ht, hno.2.2.2.1⟩
  have HM1 : Hid (1 ≤ m ∧ m ≤ 9223372036854775807) := Lib.hid ⟨hm1, by omega⟩
  have e0 : decide (m < 1) = false := decide_eq_false (by omega)
  have e1 : decide (60 < m) = false := decide_eq_false (by omega)
  have e2 : decide (1073741824 < t) = false := decide_eq_false (by omega)
  have ht0 : 0 ≤ t := hno.2.2.2.1
  have hpp : 2 ≤ p ∧ p ≤ 16384 := by have := hno.1; have := hno.2.1; have := hno.2.2.1; omega
  have HOK0 := Lib.hid (NewS_ok hno)
  have HTT : Hid (∀ v q, (NewS a b t p lim).H v q → v ≤ t) := Lib.hid fun v q h => Int.le_of_eq h.1
  obtain ⟨fl, hfl⟩ : ∃ fl, IsRow fl (NewS a b t p lim).F := ⟨a, hno.2.2.2.2.1.1.1, fun q => Iff.rfl⟩
  have HFL := Lib.hid hfl
  clear ha hb hai hbi hla hlb hw2 hb1 hb2 hf hno ht hfl
  go_enter Try.func6, Try.ntmps6
  go_upto_region 1 with (fail)
  rw [← HEQ.out.1, ← HEQ.out.2.2, ← HEQ.out.2.1]
  obtain ⟨q0, q1⟩ := box_two HB1.out
  obtain ⟨r0, r1, r2⟩ := box_three HB2.out
  go_upto_region 3 with (go_at_call 14; (with_reducible refine (HFW.out _ HO.out).mono ?_); rintro e w1 ⟨rfl, ho⟩; replace HB1 := Lib.hid (HB1.out.later ho); replace HB2 := Lib.hid (HB2.out.later ho); replace HO := Lib.hid (on_new HO.out ho); obtain ⟨s0, s1, s2⟩ := box_three HB2.out; clear ho)
  clear s0 s1 s2
  replace HB1 := Lib.hid HB1.out.drew
  replace HB2 := Lib.hid HB2.out.drew
  replace HO := Lib.hid HO.out.drew
  refine wp_region_list (B := [false, false, false, false, false, false, false, false, false, false, false, false, false, false]) (S := (fun W => (W.cell? ⟨b1, 0, none⟩ = some (.slice A nn cc) ∧ W.cell? ⟨b1, 1, none⟩ = some (.slice B mm dd)) ∧ W.cell? ⟨b2, 0, none⟩ = some (.int .i64 t) ∧ W.cell? ⟨b2, 1, none⟩ = some (.int .i64 p) ∧ W.cell? ⟨b2, 2, none⟩ = some (.int .i64 lim))) (by kernel_rfl) (by kernel_rfl) (by kernel_rfl) ⟨box_two HB1.out, box_three HB2.out⟩ (fun hsel hHeld => ?_)
  generalize hwz : World.drew _ = wz at HB1 HB2 HO hHeld ⊢
  clear hwz
  refine oneA 0 35 hsel (h := ?_)
  simp only [Act.put, List.setIfInBounds_toArray, List.set_cons_zero, List.set_cons_succ]
  refine oneA 2 37 hsel (h := ?_)
  simp only [Act.put, List.setIfInBounds_toArray, List.set_cons_zero, List.set_cons_succ]
  refine oneA 3 38 hsel (h := ?_)
  simp only [Act.put, List.setIfInBounds_toArray, List.set_cons_zero, List.set_cons_succ]
  refine oneA 4 39 hsel (h := ?_)
  simp only [Act.put, List.setIfInBounds_toArray, List.set_cons_zero, List.set_cons_succ]
  refine oneA 5 40 hsel (h := ?_)
  simp only [Act.put, List.setIfInBounds_toArray, List.set_cons_zero, List.set_cons_succ]
  refine oneA 6 41 hsel (h := ?_)
  simp only [Act.put, List.setIfInBounds_toArray, List.set_cons_zero, List.set_cons_succ]
  refine oneA 7 42 hsel (h := ?_)
  simp only [Act.put, List.setIfInBounds_toArray, List.set_cons_zero, List.set_cons_succ]
  refine wpAnyL_ready (rs := [1]) (by kernel_rfl) (by kernel_rfl) (by simp) ?_
  refine AllReadyL.cons (o := ?_) ?_ (fun K hK => ?_) AllReadyL.nil
  case refine_2 => (simp only [List.getElem?_cons_succ, List.getElem?_cons_zero]; rfl)
  go_simp
  (go_at_call 15; (with_reducible refine (HOF.out _ HO.out).mono ?_); rintro ee w5 ⟨A5, n5, c5, B5, m5, d5, rfl, hra, hrb, ho⟩; have HRA := Lib.hid hra; have HRB := Lib.hid hrb; replace HB1 := Lib.hid (HB1.out.later ho); replace HB2 := Lib.hid (HB2.out.later ho); replace HO := Lib.hid (on_new HO.out ho); clear hra hrb ho)
  go_wp2_with (fail)
  clear hHeld
  refine hK.out _ _ ⟨box_two HB1.out, box_three HB2.out⟩ (fun hHeld => ?_)
  clear hK K
  try simp only [Act.put, List.setIfInBounds_toArray, List.set_cons_zero, List.set_cons_succ]
  refine wpAnyL_ready (rs := [8]) (by kernel_rfl) (by kernel_rfl) (by simp) ?_
  refine AllReadyL.cons (o := ?_) ?_ (fun K hK => ?_) AllReadyL.nil
  case refine_2 => (simp only [List.getElem?_cons_succ, List.getElem?_cons_zero]; rfl)
  go_simp
  (go_at_call 8; have HB2P := Lib.hid HB2.out.lt; (with_reducible refine (New_ok _ A5 B5 n5 c5 m5 d5 a b t p lim HRA.out HRB.out HTB.out.1 HNO.out).mono ?_); rintro ee w6 ⟨pb, mb, rfl, hp, hm, hat, ho⟩; replace HB1 := Lib.hid (HB1.out.later ho); replace HB2 := Lib.hid (HB2.out.later ho); have HP := Lib.hid hat; have HG : Hid (w.heap.size ≤ pb ∧ w.heap.size ≤ mb) := Lib.hid ⟨Nat.le_trans HO.out.size hp, Nat.le_trans HO.out.size hm⟩; have HBG : Hid (b2 < pb ∧ b2 < mb) := Lib.hid ⟨Nat.lt_of_lt_of_le HB2P.out hp, Nat.lt_of_lt_of_le HB2P.out hm⟩; clear hp hm hat; replace HO := Lib.hid (on_new HO.out ho); clear ho)
  go_wp2_with (fail)
  clear hHeld
  refine hK.out _ _ ⟨box_two HB1.out, box_three HB2.out⟩ (fun hHeld => ?_)
  clear hK K
  try simp only [Act.put, List.setIfInBounds_toArray, List.set_cons_zero, List.set_cons_succ]
  refine oneA 9 34 hsel (h := ?_)
  simp only [Act.put, List.setIfInBounds_toArray, List.set_cons_zero, List.set_cons_succ]
  refine oneA 10 44 hsel (h := ?_)
  simp only [Act.put, List.setIfInBounds_toArray, List.set_cons_zero, List.set_cons_succ]
  refine oneA 11 45 hsel (h := ?_)
  simp only [Act.put, List.setIfInBounds_toArray, List.set_cons_zero, List.set_cons_succ]
  refine oneA 12 7 hsel (h := ?_)
  simp only [Act.put, List.setIfInBounds_toArray, List.set_cons_zero, List.set_cons_succ]
  refine oneA 13 8 hsel (h := ?_)
  simp only [Act.put, List.setIfInBounds_toArray, List.set_cons_zero, List.set_cons_succ]
  refine wpAnyL_done (by kernel_rfl) (by kernel_rfl) ?_ _
  clear hsel hHeld
  obtain ⟨S, hS⟩ : ∃ S, S = NewS a b t p lim := ⟨_, rfl⟩
  have hSp : S.pages = p := by rw [hS]; rfl
  rw [← hS] at HP HOK0 HTT HFL
  have HSP := Lib.hid hSp
  clear hS hSp
  rcases first_or fl m with hnr | ⟨kf, r, hfr⟩
  · obtain ⟨a0, hta⟩ := tail_is HOK0.out HFL.out
    have ha2 := tail_two HOK0.out hta
    have ha3 : a0 ≤ p := by rw [← HSP.out]; exact hta.2.2.1
    have hgt : p < a0 + m := by rw [← HSP.out]; exact noroom_tail HFL.out hnr (by omega) hta
    have HGT : Hid (S.pages < a0 + m) := Lib.hid (by rw [HSP.out]; exact hgt)
    have HTA := Lib.hid hta
    have HNR := Lib.hid hnr
    clear hta hnr
    by_cases hbig : m ≤ S.limit - a0
    · have HBIG := Lib.hid hbig
      have HOK1 := Lib.hid (grew_ok HOK0.out (a := a0) (m := m) (by have := HGT.out; omega) HBIG.out)
      obtain ⟨g1, g2, g3, g4⟩ := back_grew HOK0.out HTT.out HM1.out.1 HTB.out.2 HTA.out HGT.out
      rw [HSP.out] at g3
      have HG1 := Lib.hid g1
      have HG2 := Lib.hid g2
      have HG3 := Lib.hid g3
      have HG4 := Lib.hid g4
      have HOK2 := Lib.hid (gave_ok HOK1.out g1 g2)
      have HMN : Hid (min (max (t + 3) 0 - 2) (t + 1) = t + 1) := Lib.hid (by omega)
      have hc : decide (p < a0 + m) = true := decide_eq_true hgt
      have hmx : max a0 p = p := by omega
      have hmx2 : max p (a0 + m) = a0 + m := by omega
      have hwr : IntKind.i64.wrap (a0 + m) = a0 + m := IntWalk.i64_in _ (by omega)
      have HXM : Hid (may (p, a0 + m - p) = true) := Lib.hid ((may_iff _).2 ⟨by show 0 ≤ p; omega, by show 1 ≤ a0 + m - p; omega, by show p + (a0 + m - p) ≤ 32768; omega⟩)
      clear hbig g1 g2 g3 g4
      have HXR : Hid (IsRow [(p, a0 + m - p)] (within (p, a0 + m - p))) := Lib.hid ⟨one_right HXM.out, fun q => by rw [inn_cons]; simp [inn]⟩
      go_upto_region 15 with (first
        | (go_at_call 12; (with_reducible refine (Free_b HP.out).mono ?_); rintro e w12 ⟨⟨A1, n1, c1, u1, rfl, hv, hu⟩, ho⟩; obtain rfl := hu.eq HFL.out; have HR1 := Lib.hid hv.row; have HF1 := Lib.hid (own_off hv HP.out.lt.1); replace HB2 := Lib.hid (HB2.out.later ho); replace HP := Lib.hid (HP.out.later ho); replace HO := Lib.hid (on_new HO.out ho); clear hv hu ho)
        | (go_at_call 13; (with_reducible refine (Held_b HP.out HOK0.out).mono ?_); rintro e w13 ⟨⟨A2, n2, c2, u2, rfl, hv, hu⟩, ho⟩; have HR2 := Lib.hid hv.row; have HU2 := Lib.hid hu; have HF2 := Lib.hid (own_off hv HP.out.lt.1); replace HR1 := Lib.hid (HR1.out.later ho); replace HB2 := Lib.hid (HB2.out.later ho); replace HP := Lib.hid (HP.out.later ho); replace HO := Lib.hid (on_new HO.out ho); obtain ⟨s0, s1, s2⟩ := box_three HB2.out; clear hv hu ho)
        | (go_at_call 16; (with_reducible refine (tk_grow HP.out HOK0.out HFL.out HM1.out.1 HNR.out HTA.out HBIG.out).mono ?_); rintro e w14 ⟨rfl, hat, htc⟩; replace HR1 := Lib.hid (HR1.out.touch HF1.out HP.out.map htc); replace HR2 := Lib.hid (HR2.out.touch HF2.out HP.out.map htc); replace HB2 := Lib.hid (blk_touch HB2.out HBG.out htc); replace HO := Lib.hid (down_new HO.out htc HG.out.1 HG.out.2); replace HP : Hid (At w14 pb mb 1 (GrewS S a0 m)) := Lib.hid hat; obtain ⟨x0, x1, x2⟩ := box_three HB2.out; clear hat htc)
        | (go_at_call 9; (with_reducible refine (Give_ok _ pb mb 1 (GrewS S a0 m) (t + 1) (a0, m) HP.out HOK1.out HG1.out HG2.out (by have := HTB.out; omega) (by decide)).mono ?_); rintro e w15 ⟨rfl, hat, htc⟩; replace HR1 := Lib.hid (HR1.out.touch HF1.out HP.out.map htc); replace HR2 := Lib.hid (HR2.out.touch HF2.out HP.out.map htc); replace HB2 := Lib.hid (blk_touch HB2.out HBG.out htc); replace HO := Lib.hid (down_new HO.out htc HG.out.1 HG.out.2); replace HP : Hid (At w15 pb mb 2 (GaveS (GrewS S a0 m) (t + 1) (a0, m))) := Lib.hid hat; obtain ⟨y0, y1, y2⟩ := box_three HB2.out; clear hat htc)
        | (go_at_call 10; (with_reducible refine (Settle_c _ pb mb 2 (GaveS (GrewS S a0 m) (t + 1) (a0, m)) (t + 3) (t + 1) HP.out HOK2.out (by have := HTB.out; omega) (by have := HTB.out; omega)).mono ?_); rintro e w16 ⟨rfl, hat, htc⟩; replace HR1 := Lib.hid (HR1.out.touch HF1.out HP.out.map htc); replace HR2 := Lib.hid (HR2.out.touch HF2.out HP.out.map htc); replace HB2 := Lib.hid (blk_touch HB2.out HBG.out htc); replace HO := Lib.hid (down_new HO.out htc HG.out.1 HG.out.2); rw [HMN.out] at hat; replace HP : Hid (At w16 pb mb 2 (SettledS (GaveS (GrewS S a0 m) (t + 1) (a0, m)) (t + 1))) := Lib.hid hat; obtain ⟨z0, z1, z2⟩ := box_three HB2.out; clear hat htc)
        | (go_at_call 23; (with_reducible refine (Union_b HR1.out HR2.out HFL.out HU2.out).mono ?_); rintro e w17 ⟨⟨A7, n7, c7, u7, rfl, hv, hu⟩, ho⟩; have HR7 := Lib.hid hv.row; have HU7 := Lib.hid hu; replace HB2 := Lib.hid (HB2.out.later ho); replace HP := Lib.hid (HP.out.later ho); replace HO := Lib.hid (on_new HO.out ho); obtain ⟨k0, k1, k2⟩ := box_three HB2.out; have HRX := Lib.hid (one_row (w := w17) (x1 := p) (x2 := a0 + m - p)); have HNX : Hid (Only (w17.heap.size ≤ ·) w17 (w17.alloc (.cells #[.int .i64 p, .int .i64 (a0 + m - p)] 33))) := Lib.hid ((Only.refl _ w17).alloc (fun _ h => h) _); have HRP := Lib.hid (HR7.out.later HNX.out); have HBX := Lib.hid (HB2.out.later HNX.out); have HPX := Lib.hid (HP.out.later HNX.out); have HOX := Lib.hid (on_new HO.out HNX.out); clear hv hu ho)
        | (go_at_call 23; (with_reducible refine (Union_b HRP.out HRX.out HU7.out HXR.out).mono ?_); rintro e w18 ⟨⟨A8, n8, c8, u8, rfl, hv, hu⟩, ho⟩; have HR8 := Lib.hid hv.row; have HU8 := Lib.hid hu; replace HB2 := Lib.hid (HBX.out.later ho); replace HP := Lib.hid (HPX.out.later ho); replace HO := Lib.hid (on_new HOX.out ho); clear hv hu ho))
      replace HP := Lib.hid (HP.out.later (Only.refl _ _).drew)
      replace HB2 := Lib.hid HB2.out.drew
      replace HO := Lib.hid HO.out.drew
      replace HR8 := Lib.hid HR8.out.drew
      refine wp_region_list (B := [false, false, false, false, false, false, false, false, false, false, false, false, false, false, false, false, false, false, false, false, false, false, false, false, false, false, false, false, false, false, false]) (S := (fun W => W.cell? ⟨b2, 1, none⟩ = some (.int .i64 p))) (by kernel_rfl) (by kernel_rfl) (by kernel_rfl) (box_three HB2.out).2.1 (fun hsel hHeld => ?_)
      generalize hwz : World.drew _ = wz at HP HB2 HO HR8 hHeld ⊢
      clear hwz
      refine wpAnyL_ready (rs := [0]) (by kernel_rfl) (by kernel_rfl) (by simp) ?_
      refine AllReadyL.cons (o := ?_) ?_ (fun K hK => ?_) AllReadyL.nil
      case refine_2 => (simp only [List.getElem?_cons_zero]; rfl)
      go_simp
      (go_at_call 7; (with_reducible refine (alive_c _).mono ?_); rintro e w21 ⟨rfl, ho⟩; replace HR8 := Lib.hid (HR8.out.later ho); replace HB2 := Lib.hid (HB2.out.later ho); replace HP := Lib.hid (HP.out.later ho); replace HO := Lib.hid (on_new HO.out ho); clear ho)
      go_wp2_with (fail)
      clear hHeld
      refine hK.out _ _ (box_three HB2.out).2.1 (fun hHeld => ?_)
      clear hK K
      try simp only [Act.put, List.setIfInBounds_toArray, List.set_cons_zero, List.set_cons_succ]
      refine oneA 1 112 hsel (h := ?_)
      simp only [Act.put, List.setIfInBounds_toArray, List.set_cons_zero, List.set_cons_succ]
      refine oneA 2 113 hsel (h := ?_)
      simp only [Act.put, List.setIfInBounds_toArray, List.set_cons_zero, List.set_cons_succ]
      refine oneA 3 114 hsel (h := ?_)
      simp only [Act.put, List.setIfInBounds_toArray, List.set_cons_zero, List.set_cons_succ]
      refine oneA 4 115 hsel (h := ?_)
      simp only [Act.put, List.setIfInBounds_toArray, List.set_cons_zero, List.set_cons_succ]
      refine oneA 5 116 hsel (h := ?_)
      simp only [Act.put, List.setIfInBounds_toArray, List.set_cons_zero, List.set_cons_succ]
      refine oneA 6 117 hsel (h := ?_)
      simp only [Act.put, List.setIfInBounds_toArray, List.set_cons_zero, List.set_cons_succ]
      refine wpAnyL_ready (rs := [7]) (by kernel_rfl) (by kernel_rfl) (by simp) ?_
      refine AllReadyL.cons (o := ?_) ?_ (fun K hK => ?_) AllReadyL.nil
      case refine_2 => (simp only [List.getElem?_cons_succ, List.getElem?_cons_zero]; rfl)
      go_simp
      (go_at_call 13; (with_reducible refine (Held_b HP.out (settled_ok HOK2.out _)).mono ?_); rintro e w22 ⟨⟨A22, n22, c22, u22, rfl, hv, hu⟩, ho⟩; have HR22 := Lib.hid hv.row; have HU22 := Lib.hid hu; replace HR8 := Lib.hid (HR8.out.later ho); replace HB2 := Lib.hid (HB2.out.later ho); replace HP := Lib.hid (HP.out.later ho); replace HO := Lib.hid (on_new HO.out ho); clear hv hu ho)
      go_wp2_with (fail)
      clear hHeld
      refine hK.out _ _ (box_three HB2.out).2.1 (fun hHeld => ?_)
      clear hK K
      try simp only [Act.put, List.setIfInBounds_toArray, List.set_cons_zero, List.set_cons_succ]
      refine wpAnyL_ready (rs := [8]) (by kernel_rfl) (by kernel_rfl) (by simp) ?_
      refine AllReadyL.cons (o := ?_) ?_ (fun K hK => ?_) AllReadyL.nil
      case refine_2 => (simp only [List.getElem?_cons_succ, List.getElem?_cons_zero]; rfl)
      go_simp
      (go_at_call 20; (with_reducible refine (Count_b HR22.out HU22.out (no_row HG4.out) 0 (by decide)).mono ?_); rintro e w23 ⟨rfl, ho⟩; replace HR8 := Lib.hid (HR8.out.later ho); replace HB2 := Lib.hid (HB2.out.later ho); replace HP := Lib.hid (HP.out.later ho); replace HO := Lib.hid (on_new HO.out ho); clear ho)
      go_wp2_with (fail)
      clear hHeld
      refine hK.out _ _ (box_three HB2.out).2.1 (fun hHeld => ?_)
      clear hK K
      try simp only [Act.put, List.setIfInBounds_toArray, List.set_cons_zero, List.set_cons_succ]
      refine oneA 9 120 hsel (h := ?_)
      simp only [Act.put, List.setIfInBounds_toArray, List.set_cons_zero, List.set_cons_succ]
      refine oneA 10 121 hsel (h := ?_)
      simp only [Act.put, List.setIfInBounds_toArray, List.set_cons_zero, List.set_cons_succ]
      refine oneA 11 122 hsel (h := ?_)
      simp only [Act.put, List.setIfInBounds_toArray, List.set_cons_zero, List.set_cons_succ]
      refine oneA 12 123 hsel (h := ?_)
      simp only [Act.put, List.setIfInBounds_toArray, List.set_cons_zero, List.set_cons_succ]
      refine oneA 15 126 hsel (h := ?_)
      simp only [Act.put, List.setIfInBounds_toArray, List.set_cons_zero, List.set_cons_succ]
      refine wpAnyL_ready (rs := [13]) (by kernel_rfl) (by kernel_rfl) (by simp) ?_
      refine AllReadyL.cons (o := ?_) ?_ (fun K hK => ?_) AllReadyL.nil
      case refine_2 => (simp only [List.getElem?_cons_succ, List.getElem?_cons_zero]; rfl)
      go_simp
      (go_at_call 12; (with_reducible refine (Free_b HP.out).mono ?_); rintro e w24 ⟨⟨A24, n24, c24, u24, rfl, hv, hu⟩, ho⟩; have HR24 := Lib.hid hv.row; have HU24 := Lib.hid hu; have HLN := Lib.hid (row_len hu); have HEQU : Hid (u24 = u8) := Lib.hid (hu.eq (HU8.out.congr fun q => (HG3.out q).symm)); replace HR8 := Lib.hid (HR8.out.later ho); replace HB2 := Lib.hid (HB2.out.later ho); replace HP := Lib.hid (HP.out.later ho); replace HO := Lib.hid (on_new HO.out ho); clear hv hu ho)
      go_wp2_with (fail)
      clear hHeld
      refine hK.out _ _ (box_three HB2.out).2.1 (fun hHeld => ?_)
      clear hK K
      try simp only [Act.put, List.setIfInBounds_toArray, List.set_cons_zero, List.set_cons_succ]
      refine wpAnyL_ready (rs := [14]) (by kernel_rfl) (by kernel_rfl) (by simp) ?_
      refine AllReadyL.cons (o := ?_) ?_ (fun K hK => ?_) AllReadyL.nil
      case refine_2 => (simp only [List.getElem?_cons_succ, List.getElem?_cons_zero]; rfl)
      go_simp
      (go_at_call 22; (with_reducible refine (old_b HR24.out HLN.out).mono ?_); rintro e w25 ⟨⟨A25, n25, c25, rfl, hv⟩, ho⟩; have HR25 := Lib.hid hv; replace HR8 := Lib.hid (HR8.out.later ho); replace HB2 := Lib.hid (HB2.out.later ho); replace HP := Lib.hid (HP.out.later ho); replace HO := Lib.hid (on_new HO.out ho); clear hv ho)
      go_wp2_with (fail)
      clear hHeld
      refine hK.out _ _ (box_three HB2.out).2.1 (fun hHeld => ?_)
      clear hK K
      try simp only [Act.put, List.setIfInBounds_toArray, List.set_cons_zero, List.set_cons_succ]
      refine wpAnyL_ready (rs := [16]) (by kernel_rfl) (by kernel_rfl) (by simp) ?_
      refine AllReadyL.cons (o := ?_) ?_ (fun K hK => ?_) AllReadyL.nil
      case refine_2 => (simp only [List.getElem?_cons_succ, List.getElem?_cons_zero]; rfl)
      go_simp
      (go_at_call 22; (with_reducible refine (old_b HR8.out (by rw [← HEQU.out]; exact HLN.out)).mono ?_); rintro e w26 ⟨⟨A26, n26, c26, rfl, hv⟩, ho⟩; have HR26 := Lib.hid hv; replace HR25 := Lib.hid (HR25.out.later ho); replace HR8 := Lib.hid (HR8.out.later ho); replace HB2 := Lib.hid (HB2.out.later ho); replace HP := Lib.hid (HP.out.later ho); replace HO := Lib.hid (on_new HO.out ho); clear hv ho)
      go_wp2_with (fail)
      clear hHeld
      refine hK.out _ _ (box_three HB2.out).2.1 (fun hHeld => ?_)
      clear hK K
      try simp only [Act.put, List.setIfInBounds_toArray, List.set_cons_zero, List.set_cons_succ]
      refine wpAnyL_ready (rs := [17]) (by kernel_rfl) (by kernel_rfl) (by simp) ?_
      refine AllReadyL.cons (o := ?_) ?_ (fun K hK => ?_) AllReadyL.nil
      case refine_2 => (simp only [List.getElem?_cons_succ, List.getElem?_cons_zero]; rfl)
      go_simp
      (go_at_call 21; (with_reducible refine (same_t HR25.out HR26.out HEQU.out).mono ?_); rintro e w27 ⟨rfl, ho⟩; replace HR8 := Lib.hid (HR8.out.later ho); replace HB2 := Lib.hid (HB2.out.later ho); replace HP := Lib.hid (HP.out.later ho); replace HO := Lib.hid (on_new HO.out ho); clear ho)
      go_wp2_with (fail)
      clear hHeld
      refine hK.out _ _ (box_three HB2.out).2.1 (fun hHeld => ?_)
      clear hK K
      try simp only [Act.put, List.setIfInBounds_toArray, List.set_cons_zero, List.set_cons_succ]
      refine oneA 18 129 hsel (h := ?_)
      simp only [Act.put, List.setIfInBounds_toArray, List.set_cons_zero, List.set_cons_succ]
      refine oneA 19 130 hsel (h := ?_)
      simp only [Act.put, List.setIfInBounds_toArray, List.set_cons_zero, List.set_cons_succ]
      refine oneA 20 131 hsel (h := ?_)
      simp only [Act.put, List.setIfInBounds_toArray, List.set_cons_zero, List.set_cons_succ]
      refine oneA 22 133 hsel (h := ?_)
      simp only [Act.put, List.setIfInBounds_toArray, List.set_cons_zero, List.set_cons_succ]
      refine oneA 23 134 hsel (h := ?_)
      simp only [Act.put, List.setIfInBounds_toArray, List.set_cons_zero, List.set_cons_succ]
      refine oneA 24 135 hsel (h := ?_)
      simp only [Act.put, List.setIfInBounds_toArray, List.set_cons_zero, List.set_cons_succ]
      refine oneA 25 136 hsel (h := ?_)
      simp only [Act.put, List.setIfInBounds_toArray, List.set_cons_zero, List.set_cons_succ]
      refine oneA 26 137 hsel (h := ?_)
      simp only [Act.put, List.setIfInBounds_toArray, List.set_cons_zero, List.set_cons_succ]
      refine oneA 27 138 hsel (h := ?_)
      simp only [Act.put, List.setIfInBounds_toArray, List.set_cons_zero, List.set_cons_succ]
      refine wpAnyL_ready (rs := [21]) (by kernel_rfl) (by kernel_rfl) (by simp) ?_
      refine AllReadyL.cons (o := ?_) ?_ (fun K hK => ?_) AllReadyL.nil
      case refine_2 => (simp only [List.getElem?_cons_succ, List.getElem?_cons_zero]; rfl)
      go_simp
      (go_at_call 19; (with_reducible refine (pages_b HP.out (show a0 + m = (SettledS (GaveS (GrewS S a0 m) (t + 1) (a0, m)) (t + 1)).pages from rfl)).mono ?_); rintro e w28 ⟨rfl, ho⟩; replace HR8 := Lib.hid (HR8.out.later ho); replace HB2 := Lib.hid (HB2.out.later ho); replace HP := Lib.hid (HP.out.later ho); replace HO := Lib.hid (on_new HO.out ho); clear ho)
      go_wp2_with (fail)
      clear hHeld
      refine hK.out _ _ (box_three HB2.out).2.1 (fun hHeld => ?_)
      clear hK K
      try simp only [Act.put, List.setIfInBounds_toArray, List.set_cons_zero, List.set_cons_succ]
      refine oneA 28 139 hsel (h := ?_)
      simp only [Act.put, List.setIfInBounds_toArray, List.set_cons_zero, List.set_cons_succ]
      refine oneA 29 140 hsel (h := ?_)
      simp only [Act.put, List.setIfInBounds_toArray, List.set_cons_zero, List.set_cons_succ]
      refine oneA 30 6 hsel (h := ?_)
      simp only [Act.put, List.setIfInBounds_toArray, List.set_cons_zero, List.set_cons_succ]
      refine wpAnyL_done (by kernel_rfl) (by kernel_rfl) ?_ _
      clear hsel hHeld
      go_wp2_with (fail)
      go_ret
      exact ⟨rfl, HO.out⟩
    · have HBIG : Hid (S.limit - a0 < m) := Lib.hid (by omega)
      clear hbig
      go_wp2_with (first
        | (go_at_call 12; (with_reducible refine (Free_b HP.out).mono ?_); rintro e w12 ⟨⟨A1, n1, c1, u1, rfl, hv, hu⟩, ho⟩; obtain rfl := hu.eq HFL.out; have HR1 := Lib.hid hv.row; have HF1 := Lib.hid (own_off hv HP.out.lt.1); replace HB2 := Lib.hid (HB2.out.later ho); replace HP := Lib.hid (HP.out.later ho); replace HO := Lib.hid (on_new HO.out ho); clear hv hu ho)
        | (go_at_call 13; (with_reducible refine (Held_b HP.out HOK0.out).mono ?_); rintro e w13 ⟨⟨A2, n2, c2, u2, rfl, hv, hu⟩, ho⟩; have HR2 := Lib.hid hv.row; have HU2 := Lib.hid hu; have HF2 := Lib.hid (own_off hv HP.out.lt.1); replace HR1 := Lib.hid (HR1.out.later ho); replace HB2 := Lib.hid (HB2.out.later ho); replace HP := Lib.hid (HP.out.later ho); replace HO := Lib.hid (on_new HO.out ho); obtain ⟨s0, s1, s2⟩ := box_three HB2.out; clear hv hu ho)
        | (go_at_call 16; (with_reducible refine (tk_full HP.out HOK0.out HFL.out HM1.out HNR.out HTA.out HBIG.out).mono ?_); rintro e w14 ⟨rfl, ho⟩; replace HO := Lib.hid (on_new HO.out ho); clear ho)
        | (go_at_call 7; (with_reducible refine (alive_c _).mono ?_); rintro e w9 ⟨rfl, ho⟩; replace HO := Lib.hid (on_new HO.out ho); clear ho))
      go_ret
      exact ⟨rfl, HO.out⟩
  · obtain ⟨f1, f2, f3, f4⟩ := first_at HOK0.out HFL.out hfr
    rw [HSP.out] at f2
    have HFR := Lib.hid hfr
    have HOK1 := Lib.hid (took_ok HOK0.out r.1 m)
    obtain ⟨g1, g2, g3, g4⟩ := back_took HOK0.out HFL.out HTT.out HM1.out.1 HTB.out.2 hfr
    have HG1 := Lib.hid g1
    have HG2 := Lib.hid g2
    have HG3 := Lib.hid g3
    have HG4 := Lib.hid g4
    have HOK2 := Lib.hid (gave_ok HOK1.out g1 g2)
    obtain ⟨r1', r2'⟩ := r
    simp only at f1 f2 f3
    have HMN : Hid (min (max (t + 3) 0 - 2) (t + 1) = t + 1) := Lib.hid (by omega)
    have hc : decide (p < r1' + m) = false := decide_eq_false (by omega)
    have hmx2 : max p (r1' + m) = p := by omega
    have hwr : IntKind.i64.wrap (r1' + m) = r1' + m := IntWalk.i64_in _ (by omega)
    have HPG3 : Hid (p = (SettledS (GaveS (TookS S r1' m) (t + 1) (r1', m)) (t + 1)).pages) := Lib.hid HSP.out.symm
    clear hfr f4 g1 g2 g3 g4
    go_upto_region 15 with (first
      | (go_at_call 12; (with_reducible refine (Free_b HP.out).mono ?_); rintro e w12 ⟨⟨A1, n1, c1, u1, rfl, hv, hu⟩, ho⟩; obtain rfl := hu.eq HFL.out; have HR1 := Lib.hid hv.row; have HF1 := Lib.hid (own_off hv HP.out.lt.1); replace HB2 := Lib.hid (HB2.out.later ho); replace HP := Lib.hid (HP.out.later ho); replace HO := Lib.hid (on_new HO.out ho); clear hv hu ho)
      | (go_at_call 13; (with_reducible refine (Held_b HP.out HOK0.out).mono ?_); rintro e w13 ⟨⟨A2, n2, c2, u2, rfl, hv, hu⟩, ho⟩; have HR2 := Lib.hid hv.row; have HU2 := Lib.hid hu; have HF2 := Lib.hid (own_off hv HP.out.lt.1); replace HR1 := Lib.hid (HR1.out.later ho); replace HB2 := Lib.hid (HB2.out.later ho); replace HP := Lib.hid (HP.out.later ho); replace HO := Lib.hid (on_new HO.out ho); obtain ⟨s0, s1, s2⟩ := box_three HB2.out; clear hv hu ho)
      | (go_at_call 16; (with_reducible refine (tk_yes HP.out HFL.out HFR.out).mono ?_); rintro e w14 ⟨rfl, hat, htc⟩; replace HR1 := Lib.hid (HR1.out.touch HF1.out HP.out.map htc); replace HR2 := Lib.hid (HR2.out.touch HF2.out HP.out.map htc); replace HB2 := Lib.hid (blk_touch HB2.out HBG.out htc); replace HO := Lib.hid (down_new HO.out htc HG.out.1 HG.out.2); replace HP : Hid (At w14 pb mb 1 (TookS S r1' m)) := Lib.hid hat; obtain ⟨x0, x1, x2⟩ := box_three HB2.out; clear hat htc)
      | (go_at_call 9; (with_reducible refine (Give_ok _ pb mb 1 (TookS S r1' m) (t + 1) (r1', m) HP.out HOK1.out HG1.out HG2.out (by have := HTB.out; omega) (by decide)).mono ?_); rintro e w15 ⟨rfl, hat, htc⟩; replace HR1 := Lib.hid (HR1.out.touch HF1.out HP.out.map htc); replace HR2 := Lib.hid (HR2.out.touch HF2.out HP.out.map htc); replace HB2 := Lib.hid (blk_touch HB2.out HBG.out htc); replace HO := Lib.hid (down_new HO.out htc HG.out.1 HG.out.2); replace HP : Hid (At w15 pb mb 2 (GaveS (TookS S r1' m) (t + 1) (r1', m))) := Lib.hid hat; obtain ⟨y0, y1, y2⟩ := box_three HB2.out; clear hat htc)
      | (go_at_call 10; (with_reducible refine (Settle_c _ pb mb 2 (GaveS (TookS S r1' m) (t + 1) (r1', m)) (t + 3) (t + 1) HP.out HOK2.out (by have := HTB.out; omega) (by have := HTB.out; omega)).mono ?_); rintro e w16 ⟨rfl, hat, htc⟩; replace HR1 := Lib.hid (HR1.out.touch HF1.out HP.out.map htc); replace HR2 := Lib.hid (HR2.out.touch HF2.out HP.out.map htc); replace HB2 := Lib.hid (blk_touch HB2.out HBG.out htc); replace HO := Lib.hid (down_new HO.out htc HG.out.1 HG.out.2); rw [HMN.out] at hat; replace HP : Hid (At w16 pb mb 2 (SettledS (GaveS (TookS S r1' m) (t + 1) (r1', m)) (t + 1))) := Lib.hid hat; obtain ⟨z0, z1, z2⟩ := box_three HB2.out; clear hat htc)
      | (go_at_call 23; (with_reducible refine (Union_b HR1.out HR2.out HFL.out HU2.out).mono ?_); rintro e w17 ⟨⟨A7, n7, c7, u7, rfl, hv, hu⟩, ho⟩; have HR7 := Lib.hid hv.row; have HU7 := Lib.hid hu; replace HB2 := Lib.hid (HB2.out.later ho); replace HP := Lib.hid (HP.out.later ho); replace HO := Lib.hid (on_new HO.out ho); obtain ⟨k0, k1, k2⟩ := box_three HB2.out; clear hv hu ho))
    replace HP := Lib.hid (HP.out.later (Only.refl _ _).drew)
    replace HB2 := Lib.hid HB2.out.drew
    replace HO := Lib.hid HO.out.drew
    replace HR7 := Lib.hid HR7.out.drew
    refine wp_region_list (B := [false, false, false, false, false, false, false, false, false, false, false, false, false, false, false, false, false, false, false, false, false, false, false, false, false, false, false, false, false, false, false]) (S := (fun W => W.cell? ⟨b2, 1, none⟩ = some (.int .i64 p))) (by kernel_rfl) (by kernel_rfl) (by kernel_rfl) (box_three HB2.out).2.1 (fun hsel hHeld => ?_)
    generalize hwz : World.drew _ = wz at HP HB2 HO HR7 hHeld ⊢
    clear hwz
    refine wpAnyL_ready (rs := [0]) (by kernel_rfl) (by kernel_rfl) (by simp) ?_
    refine AllReadyL.cons (o := ?_) ?_ (fun K hK => ?_) AllReadyL.nil
    case refine_2 => (simp only [List.getElem?_cons_zero]; rfl)
    go_simp
    (go_at_call 7; (with_reducible refine (alive_c _).mono ?_); rintro e w21 ⟨rfl, ho⟩; replace HR7 := Lib.hid (HR7.out.later ho); replace HB2 := Lib.hid (HB2.out.later ho); replace HP := Lib.hid (HP.out.later ho); replace HO := Lib.hid (on_new HO.out ho); clear ho)
    go_wp2_with (fail)
    clear hHeld
    refine hK.out _ _ (box_three HB2.out).2.1 (fun hHeld => ?_)
    clear hK K
    try simp only [Act.put, List.setIfInBounds_toArray, List.set_cons_zero, List.set_cons_succ]
    refine oneA 1 112 hsel (h := ?_)
    simp only [Act.put, List.setIfInBounds_toArray, List.set_cons_zero, List.set_cons_succ]
    refine oneA 2 113 hsel (h := ?_)
    simp only [Act.put, List.setIfInBounds_toArray, List.set_cons_zero, List.set_cons_succ]
    refine oneA 3 114 hsel (h := ?_)
    simp only [Act.put, List.setIfInBounds_toArray, List.set_cons_zero, List.set_cons_succ]
    refine oneA 4 115 hsel (h := ?_)
    simp only [Act.put, List.setIfInBounds_toArray, List.set_cons_zero, List.set_cons_succ]
    refine oneA 5 116 hsel (h := ?_)
    simp only [Act.put, List.setIfInBounds_toArray, List.set_cons_zero, List.set_cons_succ]
    refine oneA 6 117 hsel (h := ?_)
    simp only [Act.put, List.setIfInBounds_toArray, List.set_cons_zero, List.set_cons_succ]
    refine wpAnyL_ready (rs := [7]) (by kernel_rfl) (by kernel_rfl) (by simp) ?_
    refine AllReadyL.cons (o := ?_) ?_ (fun K hK => ?_) AllReadyL.nil
    case refine_2 => (simp only [List.getElem?_cons_succ, List.getElem?_cons_zero]; rfl)
    go_simp
    (go_at_call 13; (with_reducible refine (Held_b HP.out (settled_ok HOK2.out _)).mono ?_); rintro e w22 ⟨⟨A22, n22, c22, u22, rfl, hv, hu⟩, ho⟩; have HR22 := Lib.hid hv.row; have HU22 := Lib.hid hu; replace HR7 := Lib.hid (HR7.out.later ho); replace HB2 := Lib.hid (HB2.out.later ho); replace HP := Lib.hid (HP.out.later ho); replace HO := Lib.hid (on_new HO.out ho); clear hv hu ho)
    go_wp2_with (fail)
    clear hHeld
    refine hK.out _ _ (box_three HB2.out).2.1 (fun hHeld => ?_)
    clear hK K
    try simp only [Act.put, List.setIfInBounds_toArray, List.set_cons_zero, List.set_cons_succ]
    refine wpAnyL_ready (rs := [8]) (by kernel_rfl) (by kernel_rfl) (by simp) ?_
    refine AllReadyL.cons (o := ?_) ?_ (fun K hK => ?_) AllReadyL.nil
    case refine_2 => (simp only [List.getElem?_cons_succ, List.getElem?_cons_zero]; rfl)
    go_simp
    (go_at_call 20; (with_reducible refine (Count_b HR22.out HU22.out (no_row HG4.out) 0 (by decide)).mono ?_); rintro e w23 ⟨rfl, ho⟩; replace HR7 := Lib.hid (HR7.out.later ho); replace HB2 := Lib.hid (HB2.out.later ho); replace HP := Lib.hid (HP.out.later ho); replace HO := Lib.hid (on_new HO.out ho); clear ho)
    go_wp2_with (fail)
    clear hHeld
    refine hK.out _ _ (box_three HB2.out).2.1 (fun hHeld => ?_)
    clear hK K
    try simp only [Act.put, List.setIfInBounds_toArray, List.set_cons_zero, List.set_cons_succ]
    refine oneA 9 120 hsel (h := ?_)
    simp only [Act.put, List.setIfInBounds_toArray, List.set_cons_zero, List.set_cons_succ]
    refine oneA 10 121 hsel (h := ?_)
    simp only [Act.put, List.setIfInBounds_toArray, List.set_cons_zero, List.set_cons_succ]
    refine oneA 11 122 hsel (h := ?_)
    simp only [Act.put, List.setIfInBounds_toArray, List.set_cons_zero, List.set_cons_succ]
    refine oneA 12 123 hsel (h := ?_)
    simp only [Act.put, List.setIfInBounds_toArray, List.set_cons_zero, List.set_cons_succ]
    refine oneA 15 126 hsel (h := ?_)
    simp only [Act.put, List.setIfInBounds_toArray, List.set_cons_zero, List.set_cons_succ]
    refine wpAnyL_ready (rs := [13]) (by kernel_rfl) (by kernel_rfl) (by simp) ?_
    refine AllReadyL.cons (o := ?_) ?_ (fun K hK => ?_) AllReadyL.nil
    case refine_2 => (simp only [List.getElem?_cons_succ, List.getElem?_cons_zero]; rfl)
    go_simp
    (go_at_call 12; (with_reducible refine (Free_b HP.out).mono ?_); rintro e w24 ⟨⟨A24, n24, c24, u24, rfl, hv, hu⟩, ho⟩; have HR24 := Lib.hid hv.row; have HU24 := Lib.hid hu; have HLN := Lib.hid (row_len hu); have HEQU : Hid (u24 = u7) := Lib.hid (hu.eq (HU7.out.congr fun q => (HG3.out q).symm)); replace HR7 := Lib.hid (HR7.out.later ho); replace HB2 := Lib.hid (HB2.out.later ho); replace HP := Lib.hid (HP.out.later ho); replace HO := Lib.hid (on_new HO.out ho); clear hv hu ho)
    go_wp2_with (fail)
    clear hHeld
    refine hK.out _ _ (box_three HB2.out).2.1 (fun hHeld => ?_)
    clear hK K
    try simp only [Act.put, List.setIfInBounds_toArray, List.set_cons_zero, List.set_cons_succ]
    refine wpAnyL_ready (rs := [14]) (by kernel_rfl) (by kernel_rfl) (by simp) ?_
    refine AllReadyL.cons (o := ?_) ?_ (fun K hK => ?_) AllReadyL.nil
    case refine_2 => (simp only [List.getElem?_cons_succ, List.getElem?_cons_zero]; rfl)
    go_simp
    (go_at_call 22; (with_reducible refine (old_b HR24.out HLN.out).mono ?_); rintro e w25 ⟨⟨A25, n25, c25, rfl, hv⟩, ho⟩; have HR25 := Lib.hid hv; replace HR7 := Lib.hid (HR7.out.later ho); replace HB2 := Lib.hid (HB2.out.later ho); replace HP := Lib.hid (HP.out.later ho); replace HO := Lib.hid (on_new HO.out ho); clear hv ho)
    go_wp2_with (fail)
    clear hHeld
    refine hK.out _ _ (box_three HB2.out).2.1 (fun hHeld => ?_)
    clear hK K
    try simp only [Act.put, List.setIfInBounds_toArray, List.set_cons_zero, List.set_cons_succ]
    refine wpAnyL_ready (rs := [16]) (by kernel_rfl) (by kernel_rfl) (by simp) ?_
    refine AllReadyL.cons (o := ?_) ?_ (fun K hK => ?_) AllReadyL.nil
    case refine_2 => (simp only [List.getElem?_cons_succ, List.getElem?_cons_zero]; rfl)
    go_simp
    (go_at_call 22; (with_reducible refine (old_b HR7.out (by rw [← HEQU.out]; exact HLN.out)).mono ?_); rintro e w26 ⟨⟨A26, n26, c26, rfl, hv⟩, ho⟩; have HR26 := Lib.hid hv; replace HR25 := Lib.hid (HR25.out.later ho); replace HR7 := Lib.hid (HR7.out.later ho); replace HB2 := Lib.hid (HB2.out.later ho); replace HP := Lib.hid (HP.out.later ho); replace HO := Lib.hid (on_new HO.out ho); clear hv ho)
    go_wp2_with (fail)
    clear hHeld
    refine hK.out _ _ (box_three HB2.out).2.1 (fun hHeld => ?_)
    clear hK K
    try simp only [Act.put, List.setIfInBounds_toArray, List.set_cons_zero, List.set_cons_succ]
    refine wpAnyL_ready (rs := [17]) (by kernel_rfl) (by kernel_rfl) (by simp) ?_
    refine AllReadyL.cons (o := ?_) ?_ (fun K hK => ?_) AllReadyL.nil
    case refine_2 => (simp only [List.getElem?_cons_succ, List.getElem?_cons_zero]; rfl)
    go_simp
    (go_at_call 21; (with_reducible refine (same_t HR25.out HR26.out HEQU.out).mono ?_); rintro e w27 ⟨rfl, ho⟩; replace HR7 := Lib.hid (HR7.out.later ho); replace HB2 := Lib.hid (HB2.out.later ho); replace HP := Lib.hid (HP.out.later ho); replace HO := Lib.hid (on_new HO.out ho); clear ho)
    go_wp2_with (fail)
    clear hHeld
    refine hK.out _ _ (box_three HB2.out).2.1 (fun hHeld => ?_)
    clear hK K
    try simp only [Act.put, List.setIfInBounds_toArray, List.set_cons_zero, List.set_cons_succ]
    refine oneA 18 129 hsel (h := ?_)
    simp only [Act.put, List.setIfInBounds_toArray, List.set_cons_zero, List.set_cons_succ]
    refine oneA 19 130 hsel (h := ?_)
    simp only [Act.put, List.setIfInBounds_toArray, List.set_cons_zero, List.set_cons_succ]
    refine oneA 20 131 hsel (h := ?_)
    simp only [Act.put, List.setIfInBounds_toArray, List.set_cons_zero, List.set_cons_succ]
    refine oneA 22 133 hsel (h := ?_)
    simp only [Act.put, List.setIfInBounds_toArray, List.set_cons_zero, List.set_cons_succ]
    refine oneA 23 134 hsel (h := ?_)
    simp only [Act.put, List.setIfInBounds_toArray, List.set_cons_zero, List.set_cons_succ]
    refine oneA 24 135 hsel (h := ?_)
    simp only [Act.put, List.setIfInBounds_toArray, List.set_cons_zero, List.set_cons_succ]
    refine oneA 25 136 hsel (h := ?_)
    simp only [Act.put, List.setIfInBounds_toArray, List.set_cons_zero, List.set_cons_succ]
    refine oneA 26 137 hsel (h := ?_)
    simp only [Act.put, List.setIfInBounds_toArray, List.set_cons_zero, List.set_cons_succ]
    refine oneA 27 138 hsel (h := ?_)
    simp only [Act.put, List.setIfInBounds_toArray, List.set_cons_zero, List.set_cons_succ]
    refine wpAnyL_ready (rs := [21]) (by kernel_rfl) (by kernel_rfl) (by simp) ?_
    refine AllReadyL.cons (o := ?_) ?_ (fun K hK => ?_) AllReadyL.nil
    case refine_2 => (simp only [List.getElem?_cons_succ, List.getElem?_cons_zero]; rfl)
    go_simp
    (go_at_call 19; (with_reducible refine (pages_b HP.out HPG3.out).mono ?_); rintro e w28 ⟨rfl, ho⟩; replace HR7 := Lib.hid (HR7.out.later ho); replace HB2 := Lib.hid (HB2.out.later ho); replace HP := Lib.hid (HP.out.later ho); replace HO := Lib.hid (on_new HO.out ho); clear ho)
    go_wp2_with (fail)
    clear hHeld
    refine hK.out _ _ (box_three HB2.out).2.1 (fun hHeld => ?_)
    clear hK K
    try simp only [Act.put, List.setIfInBounds_toArray, List.set_cons_zero, List.set_cons_succ]
    refine oneA 28 139 hsel (h := ?_)
    simp only [Act.put, List.setIfInBounds_toArray, List.set_cons_zero, List.set_cons_succ]
    refine oneA 29 140 hsel (h := ?_)
    simp only [Act.put, List.setIfInBounds_toArray, List.set_cons_zero, List.set_cons_succ]
    refine oneA 30 6 hsel (h := ?_)
    simp only [Act.put, List.setIfInBounds_toArray, List.set_cons_zero, List.set_cons_succ]
    refine wpAnyL_done (by kernel_rfl) (by kernel_rfl) ?_ _
    clear hsel hHeld
    go_wp2_with (fail)
    go_ret
    exact ⟨rfl, HO.out⟩
end Go.Proofs.Ytmadlckladohbaa
