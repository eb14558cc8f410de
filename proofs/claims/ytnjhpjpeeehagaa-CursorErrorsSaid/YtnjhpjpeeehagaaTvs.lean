/-
  All below a node: the closure that calls itself.
-/
import Derived.Test.YtnjhpjpeeehagaaTmd
set_option linter.unusedVariables false
namespace Go.Proofs.Ytnjhpjpeeehagaa
open Go.RowKit

/-- What meet is known to do. -/
def MeetC : Prop := ∀ (w0 w : World) (B bs mb bl : Nat) (A0 : Option Addr) (n0 c0 : Nat) (l : List Nm) (hb : Blk w0 bl 22 [.slice A0 n0 c0]) (h : Nms w0 (.slice A0 n0 c0) l) (hf : FewN l) (h0 : Only (w0.heap.size ≤ ·) w0 w) (S : Sv) (vI vR : Value) (hS : Sur w B bs mb bl l S vI vR) (ref : Int) (href : (Lit.int .i64 ref).wf = true) (dp : Nat) (hdp : 1 ≤ dp) (hdp2 : dp ≤ 13) (L H : Option Addr) (ln lc hn hc : Nat) (b : Bool) (sp : Sn) (hsp : Stab (FrM bs mb vI vR) w (fun W => SnV W sp (.slice L ln lc) (.slice H hn hc) b)),
    Calls Try.prog 38 #[.pointer (some ⟨bs, 0, none⟩), .int .i64 ref, .agg #[.int .i64 (dp : Int), .slice L ln lc, .slice H hn hc, .bool b]] w (MeetSays w B bs mb bl l vI vR (meetP l dp ref sp S))
theorem meet_err {l : List Nm} {dp : Nat} {ref : Int} {sp : Sn} {S : Sv} : ((meetP l dp ref sp S).2 = none → (meetP l dp ref sp S).1 ≠ 0) ∧ (∀ q, (meetP l dp ref sp S).2 = some q → (meetP l dp ref sp S).1 = 0 ∧ nodeP l ref = some q.1 ∧ dp ≤ 12) := by
  unfold meetP
  by_cases h12 : 12 < dp
  · rw [if_pos h12]
    exact ⟨fun _ => by decide, (fun q h => nomatch h)⟩
  · rw [if_neg h12]
    cases hno : nodeP l ref with
    | none => exact ⟨fun _ => by simp, (fun q h => nomatch h)⟩
    | some x =>
      simp only
      split
      · exact ⟨fun _ => by simp, (fun q h => nomatch h)⟩
      · exact ⟨(fun h => nomatch h), fun q h => by
          cases h
          exact ⟨rfl, rfl, by omega⟩⟩
def VisitSays (w : World) (B bs mb bl : Nat) (l : List Nm) (vI vR : Value) (r : Int × Sv) (e : Ending) (w' : World) : Prop :=
  e = .returned (.int .i64 r.1) ∧ Only (fun j => FrM bs mb vI vR j ∨ w.heap.size ≤ j) w w' ∧ (r.1 = 0 → ∃ vI' vR', Sur w' B bs mb bl l r.2 vI' vR' ∧ NB w vI vI' ∧ NB w vR vR')
theorem frm_nb {w : World} {bs mb : Nat} {vI vR vI' vR' : Value} (h1 : NB w vI vI') (h2 : NB w vR vR') {j : Nat} (hj : FrM bs mb vI' vR' j) : FrM bs mb vI vR j ∨ w.heap.size ≤ j := by
  rcases hj with hj | hj | hj | hj
  · exact .inl (.inl hj)
  · exact .inl (.inr (.inl hj))
  · rcases h1 with h | ⟨g, h, hg⟩
    · exact .inl (.inr (.inr (.inl (h ▸ hj))))
    · rw [h] at hj
      cases hj
      exact .inr hg
  · rcases h2 with h | ⟨g, h, hg⟩
    · exact .inl (.inr (.inr (.inr (h ▸ hj))))
    · rw [h] at hj
      cases hj
      exact .inr hg
theorem NB.trans {w w' : World} {v v' v'' : Value} (h : NB w v v') (k : NB w' v' v'') (hs : w.heap.size ≤ w'.heap.size) : NB w v v'' := by
  rcases k with k | ⟨g, k, hg⟩
  · rcases h with h | ⟨g, h, hg⟩
    · exact .inl (k.trans h)
    · exact .inr ⟨g, k.trans h, hg⟩
  · exact .inr ⟨g, k, Nat.le_trans hs hg⟩
/-- No variable of the call's own is among what All's calls write. -/
theorem Sur.apart {w : World} {B bs mb bl g : Nat} {l : List Nm} {S : Sv} {vI vR : Value} {t : TypeId} {cs : List Value} (h : Sur w B bs mb bl l S vI vR) (hb : Blk w g t cs) (h1 : g ≠ bs) (h2 : t ≠ 39) (h3 : t ≠ 3) : ¬ (FrM bs mb vI vR g ∨ w.heap.size ≤ g) := by
  obtain ⟨_, _, _, hS, ⟨C, hC, _⟩, hR, ⟨D, hD, _⟩, _⟩ := h
  rintro ((h | h | h | h) | h)
  · exact h1 h
  · obtain ⟨es, ck, e⟩ := hD.block
    unfold Blk at hb
    rw [h, e] at hb
    cases hb
  · exact own_ne hC hb (fun e => h2 e.symm) h
  · exact own_ne hR hb (fun e => h3 e.symm) h
  · have := hb.lt
    omega
theorem Sur.later {w w' : World} {B bs mb bl : Nat} {l : List Nm} {S : Sv} {vI vR : Value} (h : Sur w B bs mb bl l S vI vR) (ho : Only (w.heap.size ≤ ·) w w') : Sur w' B bs mb bl l S vI vR := by
  obtain ⟨h1, h2, h3, hS, ⟨C, hC, hd⟩, hR, ⟨D, hD, hk⟩, h4⟩ := h
  exact ⟨h1, h2, Nat.le_trans h3 ho.size, hS.later ho, ⟨C, own_later hC ho, hd.mono fun y cs hy => hy.later ho⟩, own_later hR ho, ⟨D, hD.on ho (by have := hD.lt13; omega), hk⟩, h4⟩
theorem Sur.drew {w : World} {B bs mb bl : Nat} {l : List Nm} {S : Sv} {vI vR : Value} (h : Sur w B bs mb bl l S vI vR) : Sur w.drew B bs mb bl l S vI vR := h.later ((Only.refl _ w).drew)

set_option maxRecDepth 100000 in
set_option maxHeartbeats 51200000 in
theorem visit_c (HM : MeetC) : ∀ (f : Nat) (hf12 : f ≤ 12) (w0 w : World) (B bs mb bl : Nat) (A0 : Option Addr) (n0 c0 : Nat) (l : List Nm) (hb : Blk w0 bl 22 [.slice A0 n0 c0]) (h : Nms w0 (.slice A0 n0 c0) l) (hf : FewN l) (h0 : Only (w0.heap.size ≤ ·) w0 w) (S : Sv) (vI vR : Value) (hS : Sur w B bs mb bl l S vI vR) (ref : Int) (href : (Lit.int .i64 ref).wf = true) (hge : w0.heap.size ≤ bs ∧ w0.heap.size ≤ mb ∧ w0.heap.size ≤ B) (L H : Option Addr) (ln lc hn hc : Nat) (b : Bool) (sp : Sn) (hsp : Stab (FrM bs mb vI vR) w (fun W => SnV W sp (.slice L ln lc) (.slice H hn hc) b)) (bv : Nat) (hbv : Blk w bv 91 [.func (.func 37) #[] #[.pointer (some ⟨bs, 0, none⟩), .pointer (some ⟨bv, 0, none⟩)]]) (dp : Nat) (hdpf : dp + f = 13),
    Calls Try.prog 37 #[.int .i64 ref, .agg #[.int .i64 (dp : Int), .slice L ln lc, .slice H hn hc, .bool b], .pointer (some ⟨bs, 0, none⟩), .pointer (some ⟨bv, 0, none⟩)] w (VisitSays w B bs mb bl l vI vR (visitP l f ref sp S)) := by
  intro f
  induction f with
  | zero =>
    have ih := 0
    intro hf12 w0 w B bs mb bl A0 n0 c0 l hb h hf h0 S vI vR hS ref href hge L H ln lc hn hc b sp hsp bv hbv dp hdpf
    obtain ⟨R, hR⟩ : ∃ R, R = visitP l 0 ref sp S := ⟨_, rfl⟩
    rw [← hR]
    have HRR := Lib.hid hR
    clear ih
    have HF12 := Lib.hid hf12
    have HBL := Lib.hid hb
    have HNM := Lib.hid h
    have HFW := Lib.hid hf
    have HO0 := Lib.hid h0
    have HSU := Lib.hid hS
    have HREF := Lib.hid href
    have HGE := Lib.hid hge
    have HLOW : Hid (∀ j, FrM bs mb vI vR j ∨ w.heap.size ≤ j → w0.heap.size ≤ j) := Lib.hid fun j hj => by
      have h1 := h0.size
      obtain ⟨_, _, _, _, ⟨C, hC, _⟩, hR, _⟩ := hS
      rcases hj with (hj | hj | hj | hj) | hj
      · omega
      · omega
      · have := World.ownsRow.lt hC j hj
        omega
      · have := World.ownsRow.lt hR j hj
        omega
      · omega
    have HDPF := Lib.hid hdpf
    obtain ⟨w1, hw1⟩ : ∃ x, x = w.alloc (.cells #[.int .i64 (dp : Int), .slice L ln lc, .slice H hn hc, .bool b] 95) := ⟨_, rfl⟩
    obtain ⟨b5, hb5⟩ : ∃ x, x = w.heap.size := ⟨_, rfl⟩
    have Hb5 : Hid (Blk w1 b5 95 [.int .i64 (dp : Int), .slice L ln lc, .slice H hn hc, .bool b]) := Lib.hid (by rw [hw1, hb5]; exact Blk.new w _ [.int .i64 (dp : Int), .slice L ln lc, .slice H hn hc, .bool b])
    have HXb5 : Hid (Only (w.heap.size ≤ ·) w w1) := Lib.hid (by rw [hw1]; exact (Only.refl _ w).alloc (fun _ h => h) _)
    have HEQb5 : Hid (w1 = w.alloc (.cells #[.int .i64 (dp : Int), .slice L ln lc, .slice H hn hc, .bool b] 95) ∧ b5 = w.heap.size) := Lib.hid ⟨hw1, hb5⟩
    clear hw1 hb5
    have HMC := Lib.hid (HM w0 w1 B bs mb bl A0 n0 c0 l hb h hf (on_new h0 HXb5.out) S vI vR (hS.later HXb5.out) ref href dp (by omega) (by omega) L H ln lc hn hc b sp (hsp.later HXb5.out))
    have HSP : Hid (Stab (FrM bs mb vI vR) w1 (fun W => SnV W sp (.slice L ln lc) (.slice H hn hc) b)) := Lib.hid (hsp.later HXb5.out)
    have HBV := Lib.hid (hbv.later HXb5.out)
    have HB5 := Hb5
    obtain ⟨M, hM⟩ : ∃ M, M = meetP l dp ref sp S := ⟨_, rfl⟩
    have HME : Hid ((M.2 = none → M.1 ≠ 0) ∧ ∀ q, M.2 = some q → M.1 = 0 ∧ nodeP l ref = some q.1 ∧ dp ≤ 12) := Lib.hid (by rw [hM]; exact meet_err)
    rw [← hM] at HMC
    have HMM := Lib.hid hM
    have hSU1 := hS.later HXb5.out
    have HAP : Hid (∀ g t cs, Blk w1 g t cs → g ≠ bs → t ≠ 39 → t ≠ 3 → ¬ (FrM bs mb vI vR g ∨ w1.heap.size ≤ g)) := Lib.hid fun g t cs hb => hSU1.apart hb
    have hvb1 : bv ≠ bs := fun e => by
      have h1 := hS.2.2.2.1
      unfold Blk at h1 hbv
      rw [← e, hbv] at h1
      simp at h1
    have HVB : Hid (bv ≠ bs ∧ b5 ≠ bs) := Lib.hid ⟨hvb1, by have h1 := hS.2.2.2.1.lt; have := HEQb5.out.2; omega⟩
    clear hvb1
    clear hR hf12 hb h hf h0 hS href hge hdpf hsp hbv hM hSU1
    go_enter Try.func37, Try.ntmps37
    go_upto_region 1 with (fail)
    rw [← HEQb5.out.1, ← HEQb5.out.2]
    obtain ⟨r0, r1, r2, r3⟩ := HB5.out.four
    go_upto_region 2 with (go_at_call 38; (with_reducible refine HMC.out.mono ?_); rintro e w2 ⟨hfr, lf, P, p, pc, Q, m, qc, rfl, hx⟩; have HFR := Lib.hid hfr; have HX := Lib.hid hx; clear hfr hx)
    clear r0 r1 r2 r3
    obtain ⟨er, her⟩ : ∃ er, er = M.1 := ⟨_, rfl⟩
    rw [← her] at HME ⊢
    have HER := Lib.hid her
    clear her
    obtain ⟨w3, hw3⟩ : ∃ x, x = w2.alloc (.cells #[.bool lf, .slice P p pc, .slice Q m qc] 55) := ⟨_, rfl⟩
    obtain ⟨b7, hb7⟩ : ∃ x, x = w2.heap.size := ⟨_, rfl⟩
    have Hb7 : Hid (Blk w3 b7 55 [.bool lf, .slice P p pc, .slice Q m qc]) := Lib.hid (by rw [hw3, hb7]; exact Blk.new w2 _ [.bool lf, .slice P p pc, .slice Q m qc])
    have HXb7 : Hid (Only (w2.heap.size ≤ ·) w2 w3) := Lib.hid (by rw [hw3]; exact (Only.refl _ w2).alloc (fun _ h => h) _)
    have HEQb7 : Hid (w3 = w2.alloc (.cells #[.bool lf, .slice P p pc, .slice Q m qc] 55) ∧ b7 = w2.heap.size) := Lib.hid ⟨hw3, hb7⟩
    clear hw3 hb7
    rw [← HEQb7.out.1, ← HEQb7.out.2]
    have HFW3 : Hid (Only (fun j => FrM bs mb vI vR j ∨ w.heap.size ≤ j) w w3) := Lib.hid ((HXb5.out.mono fun j hj => .inr hj).trans ((HFR.out.mono fun j hj => hj.imp (fun h => h) fun h => Nat.le_trans HXb5.out.size h).trans (HXb7.out.mono fun j hj => .inr (Nat.le_trans (Nat.le_trans HXb5.out.size HFR.out.size) hj))))
    have hq : M.2 = none := by rw [HMM.out]; unfold meetP; rw [if_pos (by have := HDPF.out; omega)]
    have hne : ¬ er = 0 := HME.out.1 hq
    have HR1 : Hid (R.1 = er) := Lib.hid (by rw [HRR.out, HER.out, HMM.out]; unfold visitP meetP; rw [if_pos (by have := HDPF.out; omega)])
    go_wp2_with (fail)
    go_loopg [8, 9] 0 (fun gk pe pk wr => gk = 0 ∧ pe = .int .i64 er ∧ pk = .int .i64 0 ∧ wr = w3)
    case atStart => exact ⟨rfl, rfl, rfl, rfl⟩
    case round =>
      obtain ⟨rfl, rfl, rfl, rfl⟩ := hrel
      go_wp2_with (fail)
      go_ret
      exact ⟨by rw [HR1.out]; rfl, HFW3.out, fun h => absurd (HR1.out.symm.trans h) hne⟩
  | succ f ih =>
    intro hf12 w0 w B bs mb bl A0 n0 c0 l hb h hf h0 S vI vR hS ref href hge L H ln lc hn hc b sp hsp bv hbv dp hdpf
    obtain ⟨R, hR⟩ : ∃ R, R = visitP l (f + 1) ref sp S := ⟨_, rfl⟩
    rw [← hR]
    have HRR := Lib.hid hR
    have HIH := Lib.hid ih
    have HF12 := Lib.hid hf12
    have HBL := Lib.hid hb
    have HNM := Lib.hid h
    have HFW := Lib.hid hf
    have HO0 := Lib.hid h0
    have HSU := Lib.hid hS
    have HREF := Lib.hid href
    have HGE := Lib.hid hge
    have HLOW : Hid (∀ j, FrM bs mb vI vR j ∨ w.heap.size ≤ j → w0.heap.size ≤ j) := Lib.hid fun j hj => by
      have h1 := h0.size
      obtain ⟨_, _, _, _, ⟨C, hC, _⟩, hR, _⟩ := hS
      rcases hj with (hj | hj | hj | hj) | hj
      · omega
      · omega
      · have := World.ownsRow.lt hC j hj
        omega
      · have := World.ownsRow.lt hR j hj
        omega
      · omega
    have HDPF := Lib.hid hdpf
    obtain ⟨w1, hw1⟩ : ∃ x, x = w.alloc (.cells #[.int .i64 (dp : Int), .slice L ln lc, .slice H hn hc, .bool b] 95) := ⟨_, rfl⟩
    obtain ⟨b5, hb5⟩ : ∃ x, x = w.heap.size := ⟨_, rfl⟩
    have Hb5 : Hid (Blk w1 b5 95 [.int .i64 (dp : Int), .slice L ln lc, .slice H hn hc, .bool b]) := Lib.hid (by rw [hw1, hb5]; exact Blk.new w _ [.int .i64 (dp : Int), .slice L ln lc, .slice H hn hc, .bool b])
    have HXb5 : Hid (Only (w.heap.size ≤ ·) w w1) := Lib.hid (by rw [hw1]; exact (Only.refl _ w).alloc (fun _ h => h) _)
    have HEQb5 : Hid (w1 = w.alloc (.cells #[.int .i64 (dp : Int), .slice L ln lc, .slice H hn hc, .bool b] 95) ∧ b5 = w.heap.size) := Lib.hid ⟨hw1, hb5⟩
    clear hw1 hb5
    have HMC := Lib.hid (HM w0 w1 B bs mb bl A0 n0 c0 l hb h hf (on_new h0 HXb5.out) S vI vR (hS.later HXb5.out) ref href dp (by omega) (by omega) L H ln lc hn hc b sp (hsp.later HXb5.out))
    have HSP : Hid (Stab (FrM bs mb vI vR) w1 (fun W => SnV W sp (.slice L ln lc) (.slice H hn hc) b)) := Lib.hid (hsp.later HXb5.out)
    have HBV := Lib.hid (hbv.later HXb5.out)
    have HB5 := Hb5
    obtain ⟨M, hM⟩ : ∃ M, M = meetP l dp ref sp S := ⟨_, rfl⟩
    have HME : Hid ((M.2 = none → M.1 ≠ 0) ∧ ∀ q, M.2 = some q → M.1 = 0 ∧ nodeP l ref = some q.1 ∧ dp ≤ 12) := Lib.hid (by rw [hM]; exact meet_err)
    rw [← hM] at HMC
    have HMM := Lib.hid hM
    have hSU1 := hS.later HXb5.out
    have HAP : Hid (∀ g t cs, Blk w1 g t cs → g ≠ bs → t ≠ 39 → t ≠ 3 → ¬ (FrM bs mb vI vR g ∨ w1.heap.size ≤ g)) := Lib.hid fun g t cs hb => hSU1.apart hb
    have hvb1 : bv ≠ bs := fun e => by
      have h1 := hS.2.2.2.1
      unfold Blk at h1 hbv
      rw [← e, hbv] at h1
      simp at h1
    have HVB : Hid (bv ≠ bs ∧ b5 ≠ bs) := Lib.hid ⟨hvb1, by have h1 := hS.2.2.2.1.lt; have := HEQb5.out.2; omega⟩
    clear hvb1
    clear hR ih hf12 hb h hf h0 hS href hge hdpf hsp hbv hM hSU1
    go_enter Try.func37, Try.ntmps37
    go_upto_region 1 with (fail)
    rw [← HEQb5.out.1, ← HEQb5.out.2]
    obtain ⟨r0, r1, r2, r3⟩ := HB5.out.four
    go_upto_region 2 with (go_at_call 38; (with_reducible refine HMC.out.mono ?_); rintro e w2 ⟨hfr, lf, P, p, pc, Q, m, qc, rfl, hx⟩; have HFR := Lib.hid hfr; have HX := Lib.hid hx; clear hfr hx)
    clear r0 r1 r2 r3
    obtain ⟨er, her⟩ : ∃ er, er = M.1 := ⟨_, rfl⟩
    rw [← her] at HME ⊢
    have HER := Lib.hid her
    clear her
    obtain ⟨w3, hw3⟩ : ∃ x, x = w2.alloc (.cells #[.bool lf, .slice P p pc, .slice Q m qc] 55) := ⟨_, rfl⟩
    obtain ⟨b7, hb7⟩ : ∃ x, x = w2.heap.size := ⟨_, rfl⟩
    have Hb7 : Hid (Blk w3 b7 55 [.bool lf, .slice P p pc, .slice Q m qc]) := Lib.hid (by rw [hw3, hb7]; exact Blk.new w2 _ [.bool lf, .slice P p pc, .slice Q m qc])
    have HXb7 : Hid (Only (w2.heap.size ≤ ·) w2 w3) := Lib.hid (by rw [hw3]; exact (Only.refl _ w2).alloc (fun _ h => h) _)
    have HEQb7 : Hid (w3 = w2.alloc (.cells #[.bool lf, .slice P p pc, .slice Q m qc] 55) ∧ b7 = w2.heap.size) := Lib.hid ⟨hw3, hb7⟩
    clear hw3 hb7
    rw [← HEQb7.out.1, ← HEQb7.out.2]
    have HFW3 : Hid (Only (fun j => FrM bs mb vI vR j ∨ w.heap.size ≤ j) w w3) := Lib.hid ((HXb5.out.mono fun j hj => .inr hj).trans ((HFR.out.mono fun j hj => hj.imp (fun h => h) fun h => Nat.le_trans HXb5.out.size h).trans (HXb7.out.mono fun j hj => .inr (Nat.le_trans (Nat.le_trans HXb5.out.size HFR.out.size) hj))))
    have HDE : Hid (12 - f = dp) := Lib.hid (by have := HDPF.out; omega)
    cases hq : M.2 with
    | none =>
      have hne : ¬ er = 0 := HME.out.1 hq
      have HR1 : Hid (R.1 = er) := Lib.hid (by rw [HRR.out, HER.out]; unfold visitP; rw [HDE.out, ← HMM.out, hq])
      go_wp2_with (fail)
      go_loopg [8, 9] 0 (fun gk pe pk wr => gk = 0 ∧ pe = .int .i64 er ∧ pk = .int .i64 0 ∧ wr = w3)
      case atStart => exact ⟨rfl, rfl, rfl, rfl⟩
      case round =>
        obtain ⟨rfl, rfl, rfl, rfl⟩ := hrel
        go_wp2_with (fail)
        go_ret
        exact ⟨by rw [HR1.out]; rfl, HFW3.out, fun h => absurd (HR1.out.symm.trans h) hne⟩
    | some q =>
      obtain ⟨x, S1⟩ := q
      have HM2 := Lib.hid (HME.out.2 _ hq)
      have HRK : Hid (R = kidsP (visitP l f) x.kds sp 0 x.kds.length S1) := Lib.hid (by rw [HRR.out]; unfold visitP; rw [HDE.out, ← HMM.out, hq])
      obtain ⟨vI1, vR1, hs1, hn1, hb1, hb2⟩ := HX.out x S1 hq
      have HS1 := Lib.hid (hs1.later HXb7.out)
      have HSN1 : Hid (SNod (FrM bs mb vI1 vR1) w3 x lf (.slice P p pc) (.slice Q m qc)) := Lib.hid (SNod.later hn1 HXb7.out)
      have HNB : Hid (NB w vI vI1 ∧ NB w vR vR1) := Lib.hid ⟨hb1.imp (fun h => h) fun ⟨g, h1, h2⟩ => ⟨g, h1, Nat.le_trans HXb5.out.size h2⟩, hb2.imp (fun h => h) fun ⟨g, h1, h2⟩ => ⟨g, h1, Nat.le_trans HXb5.out.size h2⟩⟩
      have HSP1 : Hid (Stab (FrM bs mb vI1 vR1) w3 (fun W => SnV W sp (.slice L ln lc) (.slice H hn hc) b)) := Lib.hid ((Stab.step (F' := FrM bs mb vI1 vR1) HSP.out HFR.out fun k hk => frm_nb hb1 hb2 hk).later HXb7.out)
      have HB53 := Lib.hid ((HB5.out.only HFR.out (HAP.out _ _ _ HB5.out HVB.out.2 (by decide) (by decide))).later HXb7.out)
      have HBV3 := Lib.hid ((HBV.out.only HFR.out (HAP.out _ _ _ HBV.out HVB.out.1 (by decide) (by decide))).later HXb7.out)
      have HML : Hid (m = x.kds.length) := Lib.hid hn1.2.2.len
      have HB7N : Hid (b7 ≠ bs) := Lib.hid (fun e => by have h1 := hs1.2.2.2.1.lt; have := HEQb7.out.2; omega)
      have HSM : Hid (Sml x) := Lib.hid (by have := HFW.out.get ref; rw [HM2.out.2.1] at this; exact this)
      have hm1 : m ≤ 1000 := by rw [HML.out]; exact HSM.out.2.1
      obtain rfl : er = 0 := HM2.out.1
      clear hs1 hn1 hb1 hb2 hq
      go_wp2_with (fail)
      go_loopg [8, 9] m (fun gk pe pk wr => ∃ (k : Nat) (er : Int), gk = m - k ∧ k ≤ m ∧ pe = .int .i64 er ∧ pk = .int .i64 (k : Int) ∧ Hid (Only (fun j => FrM bs mb vI vR j ∨ w.heap.size ≤ j) w wr) ∧ ((er ≠ 0 ∧ Hid (R.1 = er)) ∨ (er = 0 ∧ Hid (∃ S' vI' vR', R = kidsP (visitP l f) x.kds sp k (m - k) S' ∧ Sur wr B bs mb bl l S' vI' vR' ∧ NB w vI vI' ∧ NB w vR vR' ∧ SNod (FrM bs mb vI' vR') wr x lf (.slice P p pc) (.slice Q m qc) ∧ Stab (FrM bs mb vI' vR') wr (fun W => SnV W sp (.slice L ln lc) (.slice H hn hc) b)) ∧ Hid (Blk wr b5 95 [.int .i64 (dp : Int), .slice L ln lc, .slice H hn hc, .bool b]) ∧ Hid (Blk wr b7 55 [.bool lf, .slice P p pc, .slice Q m qc]) ∧ Hid (Blk wr bv 91 [.func (.func 37) #[] #[.pointer (some ⟨bs, 0, none⟩), .pointer (some ⟨bv, 0, none⟩)]]))))
      case atStart => exact ⟨0, 0, rfl, Nat.zero_le _, rfl, rfl, HFW3, .inr ⟨rfl, Lib.hid ⟨S1, vI1, vR1, by rw [HRK.out, ← HML.out]; rfl, HS1.out, HNB.out.1, HNB.out.2, HSN1.out, HSP1.out⟩, HB53, Hb7, HBV3⟩⟩
      case round =>
        obtain ⟨k, er, rfl, hk, rfl, rfl, HFR2, ⟨hne, HR1⟩ | ⟨rfl, HST, HB5, HB7, HBV⟩⟩ := hrel
        · go_wp2_with (fail)
          go_ret
          exact ⟨by rw [HR1.out]; rfl, HFR2.out, fun h => absurd (HR1.out.symm.trans h) hne⟩
        · obtain ⟨S', vI', vR', hr, hs, hn1, hn2, hsn, hsp⟩ := HST.out
          have HS := Lib.hid hs
          have HN1 := Lib.hid hn1
          have HN2 := Lib.hid hn2
          have HSN := Lib.hid hsn
          have HSP := Lib.hid hsp
          have HRK := Lib.hid hr
          clear hs hn1 hn2 hsn hsp hr HST
          obtain ⟨t0, t1, t2⟩ := HB7.out.tri
          by_cases hlt : k < m
          · have hlt' : (k : Int) < (m : Int) := by omega
            obtain ⟨kb, ko, ky, KP, kp, rfl, hkb, hky, hst⟩ := skd_at HSN.out.2.2 hlt
            obtain ⟨yk, yr⟩ := ky
            have HKC : Hid (∀ W, Only (fun j => FrM bs mb vI' vR' j ∨ wr.heap.size ≤ j) wr W → W.cell? ⟨kb, ko + k * 2 + 1, none⟩ = some (.int .i64 yr)) := Lib.hid fun W hW => (hst W hW).2.1
            have HYD : Hid ((x.kds.getD k ([], 0)).2 = yr) := Lib.hid (by rw [List.getD_eq_getElem?_getD, hky]; rfl)
            have HYR : Hid ((Lit.int .i64 yr).wf = true) := Lib.hid (by have := (HSM.out.2.2.2 _ (List.mem_of_getElem? hky)).2; simp only at this; simp [Lit.wf, IntKind.min, IntKind.max, IntKind.signed, IntKind.bits]; omega)
            obtain ⟨rr, hrr⟩ : ∃ rr, rr = visitP l f yr (underP sp x.kds k) S' := ⟨_, rfl⟩
            have HRR2 := Lib.hid hrr
            have HMK : Hid (m - k = m - (k + 1) + 1) := Lib.hid (by omega)
            have HDP1 : Hid (dp + 1 + f = 13) := Lib.hid (by have := HDPF.out; omega)
            have hdp12 : dp ≤ 12 := HM2.out.2.2
            have kc0 := HKC.out wr (Only.refl _ _)
            clear hky hst hrr hkb
            go_upto_region 5 with (fail)
            clear t0 t1 t2 kc0
            obtain ⟨wz, hwz⟩ : ∃ z, z = wr.drew := ⟨_, rfl⟩
            have HDR : Hid (Only (wr.heap.size ≤ ·) wr wz) := Lib.hid (by rw [hwz]; exact (Only.refl _ _).drew)
            replace HBV := Lib.hid (HBV.out.later HDR.out)
            replace HB7 := Lib.hid (HB7.out.later HDR.out)
            replace HB5 := Lib.hid (HB5.out.later HDR.out)
            replace HS := Lib.hid (HS.out.later HDR.out)
            replace HSN : Hid (SNod (FrM bs mb vI' vR') wz x lf (.slice P p pc) (.slice (some ⟨kb, ko, none⟩) m qc)) := Lib.hid (SNod.later HSN.out HDR.out)
            have HK2 : Hid (SRw kdE (FrM bs mb vI' vR') wz (.slice (some ⟨kb, ko, none⟩) m qc) x.kds) := Lib.hid HSN.out.2.2
            have HWR : Hid (((dp + 1 : Nat) : Int) = IntKind.i64.wrap ((dp : Int) + 1)) := Lib.hid (by rw [IntWalk.i64_in _ (by omega)]; rfl)
            replace HSP : Hid (Stab (FrM bs mb vI' vR') wz (fun W => SnV W sp (.slice L ln lc) (.slice H hn hc) b)) := Lib.hid (HSP.out.later HDR.out)
            replace HKC : Hid (∀ W, Only (fun j => FrM bs mb vI' vR' j ∨ wz.heap.size ≤ j) wz W → W.cell? ⟨kb, ko + k * 2 + 1, none⟩ = some (.int .i64 yr)) := Lib.hid fun W hW => HKC.out W ((HDR.out.mono fun j hj => .inr hj).trans (hW.mono fun j hj => hj.imp (fun h => h) fun h => Nat.le_trans HDR.out.size h))
            replace HFR2 : Hid (Only (fun j => FrM bs mb vI vR j ∨ w.heap.size ≤ j) w wz) := Lib.hid (HFR2.out.trans (HDR.out.mono fun j hj => .inr (Nat.le_trans HFR2.out.size hj)))
            refine wp_region_list (B := [false, false, false, false, false, false, false, false, false, false, false, false, false, false, false, false, false, false, false]) (S := (fun W => W.cell? ⟨bv, 0, none⟩ = some (.func (.func 37) #[] #[.pointer (some ⟨bs, 0, none⟩), .pointer (some ⟨bv, 0, none⟩)]) ∧ (W.cell? ⟨b7, 0, none⟩ = some (.bool lf) ∧ W.cell? ⟨b7, 1, none⟩ = some (.slice P p pc) ∧ W.cell? ⟨b7, 2, none⟩ = some (.slice (some ⟨kb, ko, none⟩) m qc)) ∧ (W.cell? ⟨b5, 0, none⟩ = some (.int .i64 (dp : Int)) ∧ W.cell? ⟨b5, 1, none⟩ = some (.slice L ln lc) ∧ W.cell? ⟨b5, 2, none⟩ = some (.slice H hn hc) ∧ W.cell? ⟨b5, 3, none⟩ = some (.bool b)) ∧ W.cell? ⟨kb, ko + k * 2 + 1, none⟩ = some (.int .i64 yr))) (by kernel_rfl) (by kernel_rfl) (by kernel_rfl) (by rw [← hwz]; exact ⟨HBV.out.cell 0, HB7.out.tri, HB5.out.four, HKC.out _ (Only.refl _ _)⟩) (fun hsel hHeld => ?_)
            rw [← hwz] at hHeld ⊢
            clear hwz
            refine oneA 0 27 hsel (h := ?_)
            simp only [Act.put, List.setIfInBounds_toArray, List.set_cons_zero, List.set_cons_succ]
            refine oneA 1 28 hsel (h := ?_)
            simp only [Act.put, List.setIfInBounds_toArray, List.set_cons_zero, List.set_cons_succ]
            refine oneA 2 29 hsel (h := ?_)
            simp only [Act.put, List.setIfInBounds_toArray, List.set_cons_zero, List.set_cons_succ]
            refine oneA 3 30 hsel (h := ?_)
            simp only [Act.put, List.setIfInBounds_toArray, List.set_cons_zero, List.set_cons_succ]
            refine oneA 4 31 hsel (h := ?_)
            simp only [Act.put, List.setIfInBounds_toArray, List.set_cons_zero, List.set_cons_succ]
            refine oneA 5 32 hsel (h := ?_)
            simp only [Act.put, List.setIfInBounds_toArray, List.set_cons_zero, List.set_cons_succ]
            refine oneA 6 33 hsel (h := ?_)
            simp only [Act.put, List.setIfInBounds_toArray, List.set_cons_zero, List.set_cons_succ]
            refine oneA 7 34 hsel (h := ?_)
            simp only [Act.put, List.setIfInBounds_toArray, List.set_cons_zero, List.set_cons_succ]
            refine oneA 8 35 hsel (h := ?_)
            simp only [Act.put, List.setIfInBounds_toArray, List.set_cons_zero, List.set_cons_succ]
            refine oneA 9 36 hsel (h := ?_)
            simp only [Act.put, List.setIfInBounds_toArray, List.set_cons_zero, List.set_cons_succ]
            refine oneA 10 37 hsel (h := ?_)
            simp only [Act.put, List.setIfInBounds_toArray, List.set_cons_zero, List.set_cons_succ]
            refine oneA 11 38 hsel (h := ?_)
            simp only [Act.put, List.setIfInBounds_toArray, List.set_cons_zero, List.set_cons_succ]
            refine oneA 12 39 hsel (h := ?_)
            simp only [Act.put, List.setIfInBounds_toArray, List.set_cons_zero, List.set_cons_succ]
            refine oneA 13 40 hsel (h := ?_)
            simp only [Act.put, List.setIfInBounds_toArray, List.set_cons_zero, List.set_cons_succ]
            refine oneA 14 41 hsel (h := ?_)
            simp only [Act.put, List.setIfInBounds_toArray, List.set_cons_zero, List.set_cons_succ]
            refine wpAnyL_ready (rs := [15]) (by kernel_rfl) (by kernel_rfl) (by simp) ?_
            refine AllReadyL.cons (o := ?_) ?_ (fun K hK => ?_) AllReadyL.nil
            case refine_2 => (simp only [List.getElem?_cons_succ, List.getElem?_cons_zero]; rfl)
            go_simp
            (go_at_call 39; (with_reducible refine (Under_c _ L H (some ⟨kb, ko, none⟩) ln lc hn hc m qc k b sp x.kds HSP.out HK2.out hlt hm1).mono ?_); rintro ee w5 ⟨⟨L2, ln2, lc2, H2, hn2, hc2, b2, rfl, hsp2⟩, ho⟩; have HSP2 := Lib.hid hsp2; replace HBV := Lib.hid (HBV.out.later ho); replace HB7 := Lib.hid (HB7.out.later ho); replace HB5 := Lib.hid (HB5.out.later ho); replace HS := Lib.hid (HS.out.later ho); replace HKC : Hid (∀ W, Only (fun j => FrM bs mb vI' vR' j ∨ w5.heap.size ≤ j) w5 W → W.cell? ⟨kb, ko + k * 2 + 1, none⟩ = some (.int .i64 yr)) := Lib.hid fun W hW => HKC.out W ((ho.mono fun j hj => .inr hj).trans (hW.mono fun j hj => hj.imp (fun h => h) fun h => Nat.le_trans ho.size h)); have HSP5 : Hid (Stab (FrM bs mb vI' vR') w5 (fun W => SnV W sp (.slice L ln lc) (.slice H hn hc) b)) := Lib.hid (HSP.out.later ho); have HSN5 : Hid (SNod (FrM bs mb vI' vR') w5 x lf (.slice P p pc) (.slice (some ⟨kb, ko, none⟩) m qc)) := Lib.hid (SNod.later HSN.out ho); have HW5 : Hid (w.heap.size ≤ w5.heap.size) := Lib.hid (Nat.le_trans HFR2.out.size ho.size); replace HFR2 : Hid (Only (fun j => FrM bs mb vI vR j ∨ w.heap.size ≤ j) w w5) := Lib.hid (HFR2.out.trans (ho.mono fun j hj => .inr (Nat.le_trans HFR2.out.size hj))); clear hsp2 ho)
            go_wp2_with (fail)
            clear hHeld
            refine hK.out _ _ ⟨HBV.out.cell 0, HB7.out.tri, HB5.out.four, HKC.out _ (Only.refl _ _)⟩ (fun hHeld => ?_)
            clear hK K
            try simp only [List.set_cons_zero, List.set_cons_succ]
            refine oneA 16 43 hsel (h := ?_)
            simp only [Act.put, List.setIfInBounds_toArray, List.set_cons_zero, List.set_cons_succ]
            refine wpAnyL_ready (rs := [17]) (by kernel_rfl) (by kernel_rfl) (by simp) ?_
            refine AllReadyL.cons (o := ?_) ?_ (fun K hK => ?_) AllReadyL.nil
            case refine_2 => (simp only [List.getElem?_cons_succ, List.getElem?_cons_zero]; rfl)
            go_simp
            (go_at_call 37; have hv := HIH.out (Nat.le_of_succ_le HF12.out) w0 w5 B bs mb bl A0 n0 c0 l HBL.out HNM.out HFW.out (HO0.out.trans (HFR2.out.mono HLOW.out)) S' vI' vR' HS.out yr HYR.out HGE.out L2 H2 ln2 lc2 hn2 hc2 b2 (underP sp x.kds k) HSP2.out bv HBV.out (dp + 1) HDP1.out; rw [HWR.out, ← HRR2.out] at hv; (with_reducible refine hv.mono ?_); rintro ee w6 ⟨rfl, hfr, hres⟩; have HRES := Lib.hid hres; have HF6 := Lib.hid hfr; replace HBV := Lib.hid (HBV.out.only hfr (HS.out.apart HBV.out HVB.out.1 (by decide) (by decide))); replace HB7 := Lib.hid (HB7.out.only hfr (HS.out.apart HB7.out HB7N.out (by decide) (by decide))); replace HB5 := Lib.hid (HB5.out.only hfr (HS.out.apart HB5.out HVB.out.2 (by decide) (by decide))); have HKC6 : Hid (w6.cell? ⟨kb, ko + k * 2 + 1, none⟩ = some (.int .i64 yr)) := Lib.hid (HKC.out w6 hfr); replace HFR2 : Hid (Only (fun j => FrM bs mb vI vR j ∨ w.heap.size ≤ j) w w6) := Lib.hid (HFR2.out.trans (hfr.mono fun j hj => hj.elim (fun h => frm_nb HN1.out HN2.out h) fun h => .inr (Nat.le_trans HFR2.out.size h))); clear hfr hres hv)
            go_wp2_with (fail)
            clear hHeld
            refine hK.out _ _ ⟨HBV.out.cell 0, HB7.out.tri, HB5.out.four, HKC6.out⟩ (fun hHeld => ?_)
            clear hK K
            try simp only [List.set_cons_zero, List.set_cons_succ]
            refine oneA 18 8 hsel (h := ?_)
            simp only [Act.put, List.setIfInBounds_toArray, List.set_cons_zero, List.set_cons_succ]
            refine wpAnyL_done (by kernel_rfl) (by kernel_rfl) ?_ _
            clear hsel hHeld
            go_wp2_with (fail)
            go_roundg (m - (k + 1))
            case measure => omega
            case rel =>
              refine ⟨k + 1, rr.1, rfl, by omega, rfl, by go_num, HFR2, ?_⟩
              by_cases h0 : rr.1 = 0
              · obtain ⟨vI2, vR2, s1, s2, s3⟩ := HRES.out h0
                refine .inr ⟨h0, Lib.hid ⟨rr.2, vI2, vR2, ?_, s1, HN1.out.trans s2 HW5.out, HN2.out.trans s3 HW5.out, SNod.step HSN5.out HF6.out fun j hj => frm_nb s2 s3 hj, Stab.step HSP5.out HF6.out fun j hj => frm_nb s2 s3 hj⟩, HB5, HB7, HBV⟩
                rw [HRK.out, HMK.out, kidsP, HYD.out, ← HRR2.out, if_pos h0]
              · refine .inl ⟨h0, Lib.hid ?_⟩
                rw [HRK.out, HMK.out, kidsP, HYD.out, ← HRR2.out, if_neg h0]
          · obtain rfl : k = m := by omega
            have hkm : ¬ (k : Int) < (k : Int) := by omega
            have HRE : Hid (R = (0, S')) := Lib.hid (by rw [HRK.out, Nat.sub_self]; rfl)
            go_wp2_with (fail)
            go_ret
            exact ⟨by rw [HRE.out]; rfl, HFR2.out, fun _ => ⟨vI', vR', by rw [HRE.out]; exact HS.out, HN1.out, HN2.out⟩⟩
end Go.Proofs.Ytnjhpjpeeehagaa
