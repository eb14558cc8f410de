/-
  The document's state: Writer, room, Bytes.
-/
import Derived.Test.YtmkpcdcdhheokaaNews
import Derived.Test.YtmkpcdcdhheokaaFits
import Derived.Outline
set_option linter.unusedVariables false
namespace Go.Proofs.Ytmkpcdcdhheokaa
open Go.RowKit

/-- A value that is the state c; its bytes stand in no block below M. -/
def St (M : Nat) (w : World) (v : Value) (c : Cur) : Prop := c.WF ∧ ∃ A cap, v = .agg #[.slice A c.b.length cap, .int .i64 c.at_, .bool c.sp] ∧ Src w (.slice A c.b.length cap) c.b ∧ ∀ ad, A = some ad → 0 < c.b.length → M ≤ ad.block
theorem St.later {M : Nat} {w w' : World} {v : Value} {c : Cur} (h : St M w v c) (ho : Only (w.heap.size ≤ ·) w w') : St M w' v c := by
  obtain ⟨h1, A, cap, h2, h3, h4⟩ := h
  exact ⟨h1, A, cap, h2, h3.later ho, h4⟩
theorem St.spoiled {M : Nat} {w w' : World} {A : Option Addr} {cap : Nat} {c : Cur} (h : St M w (.agg #[.slice A c.b.length cap, .int .i64 c.at_, .bool c.sp]) c) (ho : Only (w.heap.size ≤ ·) w w') : St M w' (.agg #[.slice A c.b.length cap, .int .i64 c.at_, .bool true]) c.spoil := by
  obtain ⟨h1, A', cap', h2, h3, h4⟩ := h
  simp only [Value.agg.injEq, List.toArray_inj, Array.mk.injEq, List.cons.injEq, Value.slice.injEq, true_and, and_true] at h2
  obtain ⟨rfl, rfl⟩ := h2
  exact ⟨h1.spoil, _, _, rfl, h3.later ho, h4⟩

set_option maxRecDepth 100000 in
theorem rWriter_c (M : Nat) (w : World) (hM : M ≤ w.heap.size) (n : Int) :
    Calls Try.prog 10 #[.int .i64 n] w fun e w' => ∃ v, e = .returned v ∧ St M w' v (Cur.make n) ∧ Only (w.heap.size ≤ ·) w w' := by
  have key : ∀ m : Nat, m ≤ 65536 → ∀ W : World, Blk W (w.heap.size + 1) 5 (List.replicate m z8) → St M W (.agg #[.slice (some ⟨w.heap.size + 1, 0, none⟩) m m, .int .i64 0, .bool false]) (Cur.new (List.replicate m 0)) := by
    intro m hm W hb
    refine ⟨⟨Nat.zero_le _, by simp [Cur.new]; omega⟩, some ⟨w.heap.size + 1, 0, none⟩, m, by simp [Cur.new], ⟨some ⟨w.heap.size + 1, 0, none⟩, m, rfl, ?_, (fun e => by cases e), by simp [Cur.new], by omega⟩, fun ad e _ => by cases e; show M ≤ w.heap.size + 1; omega⟩
    · have h := Txt.blk (xs := List.replicate m 0) (rest := []) (by simpa [cb_replicate, z8] using hb) 0 m (by simp) (A := some ⟨w.heap.size + 1, 0, none⟩) (fun _ => rfl)
      simpa [Cur.new] using h
  by_cases h : 0 ≤ n ∧ n ≤ 65536
  · obtain ⟨h0, h1⟩ := h
    obtain ⟨m, rfl⟩ : ∃ m : Nat, n = m := ⟨n.toNat, by omega⟩
    have hm : m ≤ 65536 := by omega
    have E : Hid (Cur.make (m : Int) = Cur.new (List.replicate m 0)) := by show _ = _; rw [Cur.make, size, if_pos ⟨h0, h1⟩, Int.toNat_natCast]
    have hmk := run_make8 m hm
    have HK := Lib.hid (key m hm)
    clear key
    go_enter Try.func10, Try.ntmps10
    go_wp2
    refine bodyPost_ret (v := .agg #[.slice (some ⟨w.heap.size + 1, 0, none⟩) m m, .int .i64 0, .bool false]) (by simp [results, Try.results10, go_sem]) rfl ⟨_, rfl, ?_, ?_⟩
    · rw [E.out]
      refine HK.out _ ?_
      have := Blk.new (w.alloc (.cells #[.slice (some ⟨w.heap.size + 1, 0, none⟩) m m, .int .i64 0, .bool false] 29)) 5 (List.replicate m z8)
      simpa using this
    · exact ((Only.refl _ w).alloc (fun _ h => h) _).alloc (fun _ h => h) _
  · have E : Hid (Cur.make n = Cur.new (List.replicate 0 0)) := by show _ = _; rw [Cur.make, size, if_neg h]
    have hmk : ∀ W : World, (Instr.makeSlice 27 (.int .i64 0) (.int .i64 0)).run Try.prog W = .ok (.slice (some ⟨W.heap.size, 0, none⟩) 0 0) (W.alloc (.cells #[] 5)) := fun W => by simpa using run_make8 0 (by omega) W
    have HK := Lib.hid (key 0 (by omega))
    clear key
    by_cases h0 : 0 ≤ n
    · have h1 : ¬ n ≤ 65536 := fun h1 => h ⟨h0, h1⟩
      clear h
      go_enter Try.func10, Try.ntmps10
      go_wp2
      refine bodyPost_ret (v := .agg #[.slice (some ⟨w.heap.size + 1, 0, none⟩) 0 0, .int .i64 0, .bool false]) (by simp [results, Try.results10, go_sem]) rfl ⟨_, rfl, ?_, ?_⟩
      · rw [E.out]
        refine HK.out _ ?_
        have := Blk.new (w.alloc (.cells #[.slice (some ⟨w.heap.size + 1, 0, none⟩) 0 0, .int .i64 0, .bool false] 29)) 5 []
        simpa using this
      · exact ((Only.refl _ w).alloc (fun _ h => h) _).alloc (fun _ h => h) _
    · clear h
      go_enter Try.func10, Try.ntmps10
      go_wp2
      refine bodyPost_ret (v := .agg #[.slice (some ⟨w.heap.size + 1, 0, none⟩) 0 0, .int .i64 0, .bool false]) (by simp [results, Try.results10, go_sem]) rfl ⟨_, rfl, ?_, ?_⟩
      · rw [E.out]
        refine HK.out _ ?_
        have := Blk.new (w.alloc (.cells #[.slice (some ⟨w.heap.size + 1, 0, none⟩) 0 0, .int .i64 0, .bool false] 29)) 5 []
        simpa using this
      · exact ((Only.refl _ w).alloc (fun _ h => h) _).alloc (fun _ h => h) _

set_option maxRecDepth 100000 in
theorem room_c {M : Nat} (w : World) (v : Value) (c : Cur) (h : St M w v c) (n : Int) :
    Calls Try.prog 29 #[v, .int .i64 n] w fun e w' => e = .returned (.bool (c.has n)) ∧ Only (w.heap.size ≤ ·) w w' := by
  obtain ⟨hw, A, cap, rfl, hs, hfar⟩ := h
  have hl := hw.len
  have ha := hw.at_
  clear hs hw hfar
  obtain ⟨b, a, sp⟩ := c
  simp only at hl ha ⊢
  obtain ⟨N, hne⟩ : ∃ N, N = b.length := ⟨_, rfl⟩
  have HN := Lib.hid hne
  rw [← hne] at hl ha ⊢
  clear hne
  cases sp
  · by_cases h0 : 0 ≤ n
    · have E : Hid (Cur.has ⟨b, a, false⟩ n = decide (n ≤ (N : Int) - a)) := by show _ = _; unfold Cur.has; rw [decide_eq_true h0, HN.out]; rfl
      go_enter Try.func29, Try.ntmps29
      go_wp2
      go_ret
      rw [E.out]
      exact ⟨rfl, (Only.refl _ w).alloc (fun _ h => h) _⟩
    · have E : Hid (Cur.has ⟨b, a, false⟩ n = false) := by show _ = _; unfold Cur.has; rw [decide_eq_false h0]; rfl
      go_enter Try.func29, Try.ntmps29
      go_wp2
      go_ret
      rw [E.out]
      exact ⟨rfl, (Only.refl _ w).alloc (fun _ h => h) _⟩
  · have E : Hid (Cur.has ⟨b, a, true⟩ n = false) := Cur.has_sp rfl n
    go_enter Try.func29, Try.ntmps29
    go_wp2
    go_ret
    rw [E.out]
    exact ⟨rfl, (Only.refl _ w).alloc (fun _ h => h) _⟩

theorem Blk.three {w : World} {g : Nat} {t : TypeId} {a b c : Value} (h : Blk w g t [a, b, c]) : w.cell? ⟨g, 0, none⟩ = some a ∧ w.cell? ⟨g, 1, none⟩ = some b ∧ w.cell? ⟨g, 2, none⟩ = some c ∧ ∀ i, w.frozen? ⟨g, i, none⟩ = false := ⟨h.cell 0, h.cell 1, h.cell 2, h.frozen⟩
/-- The box of a state, and the result's. -/
def Box (w w' : World) (a b c : Value) : Prop := Blk w' w.heap.size 29 [a, b, c] ∧ Blk w' (w.heap.size + 1) 29 [.slice none 0 0, .int .i64 0, .bool false] ∧ Only (w.heap.size ≤ ·) w w' ∧ w.heap.size + 2 ≤ w'.heap.size
theorem Box.new (w : World) (a b c : Value) : Box w ((w.alloc (.cells #[a, b, c] 29)).alloc (.cells #[.slice none 0 0, .int .i64 0, .bool false] 29)) a b c := by
  refine ⟨(Blk.new w 29 [a, b, c]).alloc _, ?_, ((Only.refl _ w).alloc (fun _ h => h) _).alloc (fun _ h => h) _, by simp⟩
  have := Blk.new (w.alloc (.cells #[a, b, c] 29)) 29 [.slice none 0 0, .int .i64 0, .bool false]
  simpa using this
theorem Box.later {w w1 w2 : World} {a b c : Value} (h : Box w w1 a b c) (ho : Only (w1.heap.size ≤ ·) w1 w2) : Box w w2 a b c := by
  obtain ⟨h1, h2, h3, h4⟩ := h
  have := ho.size
  exact ⟨h1.only ho (by omega), h2.only ho (by omega), h3.trans (ho.mono fun k h => Nat.le_trans h3.size h), by omega⟩
theorem Box.size1 {w w1 : World} {a b c : Value} (h : Box w w1 a b c) : w.heap.size < w1.heap.size := by have := h.2.2.2; omega
theorem Box.size2 {w w1 : World} {a b c : Value} (h : Box w w1 a b c) : w.heap.size + 1 < w1.heap.size := by have := h.2.2.2; omega
theorem made0 (w : World) : (w.alloc (.cells #[] 5)).ownsRow w.heap.size 5 1 (.slice (some ⟨w.heap.size, 0, none⟩) 0 0) 0 [] :=
  World.ownsRow_made (size := 1) (base := w.heap.size) (e := 5) w #[] 0 (Nat.le_refl _) (by simp [maxLen]) (by simp)
theorem grown0 {w wa : World} (h : (w.alloc (.cells #[] 5)).grownBy wa (Value.slice (some ⟨w.heap.size, 0, none⟩) 0 0).ownBlock) : Only (w.heap.size ≤ ·) w wa :=
  ((Only.refl _ w).alloc (fun _ h => h) _).grown h (fun _ h => h) (fun k hk => by injection hk with hk; exact Nat.le_of_eq hk)
theorem own0 {w : World} {B n : Nat} {v : Value} {xs : List Value} (h : w.ownsRow B 5 1 v (0 + n) ([] ++ xs)) : w.ownsRow B 5 1 v n xs := by simpa using h
theorem own3 {w : World} {B a m N : Nat} {v : Value} {b1 b2 b3 : Bytes} (hk : a + m ≤ N) (h : w.ownsRow B 5 1 v (a + m + (N - (a + m))) (cb b1 ++ cb b2 ++ cb b3)) :
    ∃ A c, v = .slice A N c ∧ (∀ ad, A = some ad → B ≤ ad.block) ∧ ∀ w' F, Only F w w' → (∀ k, F k → k < B) → Src w' (.slice A N c) (b1 ++ (b2 ++ b3)) := by
  rw [← cb_append, ← cb_append, List.append_assoc, show a + m + (N - (a + m)) = N by omega] at h
  obtain ⟨A, c, hv, h1, h2, h3, h4, h5⟩ := txt_of_own h
  obtain rfl : (b1 ++ (b2 ++ b3)).length = N := h1.1
  subst hv
  refine ⟨A, c, rfl, fun ad e => (h5 ad e).1, fun w' F ho hF => ⟨A, c, rfl, h1.only ho (fun ad _ e hf => ?_), fun e => (h2 e).2, h3, by simp only [maxLen] at h4; omega⟩⟩
  have := hF _ hf
  have := (h5 ad e).1
  omega
set_option maxRecDepth 100000 in
set_option maxHeartbeats 1600000 in
theorem rBytes_yes (w : World) (A A2 : Option Addr) (N cap a m cap2 : Nat) (sp : Bool) (b1 xs b3 : Bytes) (hN : N ≤ 1099511627776) (hk : a + m ≤ N) (hc : N ≤ cap) (hcm : cap ≤ 9223372036854775807)
    (hA : A = none → cap = 0) (hA2 : A2 = none → m = 0 ∧ cap2 = 0)
    (HR : Hid (∀ W, Only (w.heap.size ≤ ·) w W → Calls Try.prog 29 #[.agg #[.slice A N cap, .int .i64 a, .bool sp], .int .i64 m] W fun e w' => e = .returned (.bool true) ∧ Only (W.heap.size ≤ ·) W w'))
    (H1 : Hid (Txt w A a b1)) (H2 : Hid (Txt w A2 m xs)) (H3 : Hid (Txt w (if cap = a + m then A else A.map (·.add (a + m))) (N - (a + m)) b3)) :
    Calls Try.prog 14 #[.agg #[.slice A N cap, .int .i64 a, .bool sp], .slice A2 m cap2] w fun e w' => ∃ A' cap', e = .returned (.agg #[.slice A' N cap', .int .i64 ((a : Int) + m), .bool sp]) ∧ Src w' (.slice A' N cap') (b1 ++ (xs ++ b3)) ∧ Only (w.heap.size ≤ ·) w w' ∧ ∀ ad, A' = some ad → w.heap.size ≤ ad.block := by
  obtain ⟨i0, hi0, hz0, hz1, hz2⟩ := info_parts info8
  have HI := Lib.hid (And.intro hi0 (And.intro hz0 (And.intro hz1 hz2)))
  have HA := Lib.hid hA
  have HA2 := Lib.hid hA2
  clear hA hA2 hi0 hz0 hz1 hz2
  have k0 : (0 : Int) ≤ (a : Int) := by omega
  have k1 : (a : Int) ≤ (cap : Int) := by omega
  have k2 : (a : Int) + m ≤ (N : Int) := by omega
  have k3 : (N : Int) ≤ (cap : Int) := by omega
  have k4 : (0 : Int) ≤ (m : Int) := by omega
  have kt : ((a : Int) + m).toNat = a + m := by omega
  have HL1 : Hid ((cb b1).length = a * 1) := by show _ = _; rw [cb_length, H1.out.1, Nat.mul_one]
  have HL2 : Hid ((cb xs).length = m * 1) := by show _ = _; rw [cb_length, H2.out.1, Nat.mul_one]
  have HL3 : Hid ((cb b3).length = (N - (a + m)) * 1) := by show _ = _; rw [cb_length, H3.out.1, Nat.mul_one]
  have HA3 : Hid ((if cap = a + m then A else A.map (·.add (a + m))) = none → N - (a + m) = 0 ∧ cap - (a + m) = 0) := by
    intro e
    have : A = none := by split at e <;> simpa using e
    have := HA.out this
    omega
  have HA1 : Hid (A = none → a = 0 ∧ cap = 0) := fun e => ⟨by have := HA.out e; omega, HA.out e⟩
  go_enter Try.func14, Try.ntmps14
  go_wp2_with (first | (go_at_call 29; refine (HR.out _ (Box.new w _ _ _).2.2.1).mono ?_; rintro e w1 ⟨rfl, ho⟩; have HB := Lib.hid ((Box.new w _ _ _).later ho); clear ho; obtain ⟨q0, q1, q2, q3⟩ := HB.out.1.three; obtain ⟨r0, r1, r2, r3⟩ := HB.out.2.1.three; have z1 := HB.out.size1; have z2 := HB.out.size2; have HM := Lib.hid (made0 w1); have HN1 := Lib.hid (H1.out.later (HB.out.2.2.1.alloc (fun _ h => h) (.cells #[] 5))).src) | (at_builtin; refine wpList_append_src _ rfl (.tmp 13) (.tmp 18) 27 rfl w1.heap.size 5 i0 _ 1 1 Try.underlying27 HI.out.1 HI.out.2.1 HI.out.2.2.1 HI.out.2.2.2 (by rfl) (by omega) (.slice (some ⟨w1.heap.size, 0, none⟩) 0 0) 0 [] rfl HM.out A a cap (cb b1) rfl HA1.out HL1.out HN1.out (cb_one _) (by simp only [maxLen]; omega) (by omega) (by simp) ?_; intro va wa hoa hga; have HOA := Lib.hid (grown0 hga); obtain ⟨q0a, q1a, q2a, q3a⟩ := (HB.out.later HOA.out).1.three; have HVA := Lib.hid (own0 hoa); have HN2 := Lib.hid (H2.out.later (HB.out.2.2.1.trans (HOA.out.mono fun k h => Nat.le_trans HB.out.2.2.1.size h))).src; clear hoa hga) | (at_builtin; refine wpList_append_src _ rfl (.tmp 20) (.tmp 21) 27 rfl w1.heap.size 5 i0 _ 1 1 Try.underlying27 HI.out.1 HI.out.2.1 HI.out.2.2.1 HI.out.2.2.2 (by rfl) (by omega) va a (cb b1) rfl HVA.out A2 m cap2 (cb xs) rfl HA2.out HL2.out HN2.out (cb_one _) (by simp only [maxLen]; omega) (by omega) HOA.out.size ?_; intro vb wb hob hgb; have HOB := Lib.hid (HOA.out.grown hgb (fun _ h => h) (fun g hg => (HVA.out.lt g hg).1)); obtain ⟨q0b, q1b, q2b, q3b⟩ := (HB.out.later HOB.out).1.three; have HVB := Lib.hid hob; have HN3 := Lib.hid (H3.out.later (HB.out.2.2.1.trans (HOB.out.mono fun k h => Nat.le_trans HB.out.2.2.1.size h))).src; clear hob hgb) | (at_builtin; refine wpList_append_src _ rfl (.tmp 23) (.tmp 31) 27 rfl w1.heap.size 5 i0 _ 1 1 Try.underlying27 HI.out.1 HI.out.2.1 HI.out.2.2.1 HI.out.2.2.2 (by rfl) (by omega) vb (a + m) (cb b1 ++ cb xs) rfl HVB.out _ _ _ (cb b3) rfl HA3.out HL3.out HN3.out (cb_one _) (by simp only [maxLen]; omega) (by omega) HOB.out.size ?_; intro vc wc hoc hgc; have HOC := Lib.hid (HOB.out.grown hgc (fun _ h => h) (fun g hg => (HVB.out.lt g hg).1)); obtain ⟨q0c, q1c, q2c, q3c⟩ := (HB.out.later HOC.out).1.three; obtain ⟨r0c, r1c, r2c, r3c⟩ := (HB.out.later HOC.out).2.1.three; obtain ⟨A', c', rfl, hfar, hsrc⟩ := own3 hk hoc; have HV := Lib.hid hsrc; have HFa := Lib.hid hfar; clear hoc hgc hsrc hfar))
  all_goals
    refine bodyPost_ret (v := .agg #[.slice A' N c', .int .i64 ((a : Int) + m), .bool sp]) (by simp [results, Try.results14, go_sem, r0c, r1c, r2c]) rfl ⟨A', c', rfl, ?_, ?_, fun ad e => Nat.le_trans HB.out.2.2.1.size (HFa.out ad e)⟩
    · refine HV.out _ (fun k => k = w.heap.size ∨ k = w.heap.size + 1) (((((Only.setCell (Only.refl _ wc) (.inl rfl) _).setCell (.inl rfl) _).setCell (.inr rfl) _).setCell (.inr rfl) _).setCell (.inr rfl) _) ?_
      rintro k (rfl | rfl) <;> omega
    · have ho := (HB.out.later HOC.out).2.2.1
      exact ((((ho.setCell (Nat.le_refl _) _).setCell (Nat.le_refl _) _).setCell (Nat.le_succ _) _).setCell (Nat.le_succ _) _).setCell (Nat.le_succ _) _

set_option maxRecDepth 100000 in
set_option maxHeartbeats 1600000 in
theorem rBytes_c (M : Nat) (w : World) (hM : M ≤ w.heap.size) (v : Value) (c : Cur) (h : St M w v c) (hc : c.b.length ≤ 1048576) (u : Value) (xs : Bytes) (hx : Src w u xs) :
    Calls Try.prog 14 #[v, u] w fun e w' => ∃ v', e = .returned v' ∧ St M w' v' (c.write xs) ∧ Only (w.heap.size ≤ ·) w w' := by
  have HSt := Lib.hid h
  obtain ⟨hw, A, cap, rfl, hs, hfar⟩ := h
  obtain ⟨A', cap', hv, hs⟩ := hs
  injection hv with hv1 hv2 hv3
  subst hv1 hv3
  clear hv2 hfar
  obtain ⟨A2, cap2, rfl, hx⟩ := hx
  by_cases hn : c.has xs.length = true
  · have HR : Hid (∀ W : World, St M W (.agg #[.slice A c.b.length cap, .int .i64 c.at_, .bool c.sp]) c → Calls Try.prog 29 #[.agg #[.slice A c.b.length cap, .int .i64 c.at_, .bool c.sp], .int .i64 xs.length] W fun e w' => e = .returned (.bool true) ∧ Only (W.heap.size ≤ ·) W w') :=
      fun W hW => (room_c W _ c hW _).mono fun e w' ⟨h, h'⟩ => ⟨by rw [h, hn], h'⟩
    have HW : Hid (c.write xs = { c with b := over c.b c.at_ xs, at_ := c.at_ + xs.length }) := by show _ = _; rw [Cur.write, if_pos hn]
    have HWW : Hid ((c.write xs).WF) := hw.write xs
    obtain ⟨hsp, m', hm', hk⟩ := Cur.has_parts hn
    obtain rfl : m' = xs.length := by omega
    have hl := over_length c.b c.at_ xs hk
    refine (rBytes_yes w A A2 c.b.length cap c.at_ xs.length cap2 c.sp (c.b.take c.at_) xs (c.b.drop (c.at_ + xs.length)) (by omega) hk hs.2.2.1 hs.2.2.2 hs.2.1 (fun e => ⟨by have := hx.2.1 e; have := hx.2.2.1; omega, hx.2.1 e⟩) (fun W hW => HR.out W (HSt.out.later hW)) ?_ hx.1 ?_).mono fun e w' h => ?_
    · rcases Nat.eq_zero_or_pos c.at_ with h0 | h0
      · rw [h0]; exact Txt.nil_ _ _
      · obtain ⟨ad, rfl, _⟩ := hs.1.2 (by omega)
        exact hs.1.take _ (by omega)
    · by_cases hcap : cap = c.at_ + xs.length
      · rw [if_pos hcap]
        have h0 : c.b.length - (c.at_ + xs.length) = 0 := by have := hs.2.2.1; omega
        rw [h0, List.drop_of_length_le (by omega)]
        exact Txt.nil_ _ _
      · rw [if_neg hcap]
        rcases Nat.eq_zero_or_pos (c.b.length - (c.at_ + xs.length)) with h0 | h0
        · rw [h0, List.drop_of_length_le (by omega)]
          exact Txt.nil_ _ _
        · obtain ⟨ad, rfl, _⟩ := hs.1.2 (by omega)
          exact hs.1.drop _
    · obtain ⟨A', c', he, hsrc, ho, hfar⟩ := h
      refine ⟨_, he, ⟨HWW.out, A', c', ?_, ?_, fun ad e _ => Nat.le_trans hM (hfar ad e)⟩, ho⟩
      · rw [Cur.write_len, HW.out]
        simp
      · rw [Cur.write_len, HW.out]
        exact hsrc
  · have hn' : c.has xs.length = false := by simpa using hn
    have HR : Hid (∀ W : World, St M W (.agg #[.slice A c.b.length cap, .int .i64 c.at_, .bool c.sp]) c → Calls Try.prog 29 #[.agg #[.slice A c.b.length cap, .int .i64 c.at_, .bool c.sp], .int .i64 xs.length] W fun e w' => e = .returned (.bool false) ∧ Only (W.heap.size ≤ ·) W w') :=
      fun W hW => (room_c W _ c hW _).mono fun e w' ⟨h, h'⟩ => ⟨by rw [h, hn'], h'⟩
    have HW : Hid (c.write xs = c.spoil) := by show _ = _; rw [Cur.write, hn']; rfl
    clear hn hn' hw hs hx
    go_enter Try.func14, Try.ntmps14
    go_wp2_with (first | (go_at_call 29; refine (HR.out _ (HSt.out.later (Box.new w _ _ _).2.2.1)).mono ?_; rintro e w' ⟨rfl, ho⟩; have HB := Lib.hid ((Box.new w _ _ _).later ho); clear ho; obtain ⟨q0, q1, q2, q3⟩ := HB.out.1.three; obtain ⟨r0, r1, r2, r3⟩ := HB.out.2.1.three))
    refine bodyPost_ret (v := .agg #[.slice A c.b.length cap, .int .i64 c.at_, .bool true]) (by simp [results, Try.results14, go_sem, r0, r1, r2]) rfl ⟨_, rfl, ?_, ?_⟩
    · rw [HW.out]
      refine HSt.out.spoiled ?_
      exact (((HB.out.2.2.1.setCell (Nat.le_refl _) _).setCell (Nat.le_succ _) _).setCell (Nat.le_succ _) _).setCell (Nat.le_succ _) _
    · exact (((HB.out.2.2.1.setCell (Nat.le_refl _) _).setCell (Nat.le_succ _) _).setCell (Nat.le_succ _) _).setCell (Nat.le_succ _) _

end Go.Proofs.Ytmkpcdcdhheokaa
