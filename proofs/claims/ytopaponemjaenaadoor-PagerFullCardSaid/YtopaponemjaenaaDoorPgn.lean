/-
  PagerFull: the walk.
-/
import Derived.Test.YtopaponemjaenaaDoorPgh
import Derived.Test.YtopaponemjaenaaDoorPgm
set_option linter.unusedVariables false
namespace Go.Proofs.YtopaponemjaenaaDoor
open Go.RowKit

theorem of_0 (w0 W : World) (A : Option Addr) (n c : Nat) (l : List Wt) (h : Wts w0 (.slice A n c) l) (h0 : Only (w0.heap.size ≤ ·) w0 W) (hn : n ≤ 1000) : Calls Tryd.prog 13 #[.slice A n c] W fun e w' => ∃ (R : Option Addr) (t : Nat) (C : List Value), e = .returned (.slice R n t) ∧ (∀ W', Only (w0.heap.size ≤ ·) w0 W' → Den (wrE.At W') l C) ∧ w'.ownsRow W.heap.size 41 2 (.slice R n t) n C ∧ Only (W.heap.size ≤ ·) W w' := by
  have h1 := Pgof_0 w0 W A n c l h h0 hn
  have hl := h.len
  unfold GaveW0 at h1
  rw [← hl] at h1
  exact h1
theorem few_facts2 {ws : List Wt} {p : Int} {n : Nat} (h : fewP ws p n = true) : ws.length ≤ 12 ∧ sumW ws ≤ 5120 ∧ p ≤ 40 ∧ n ≤ 100 := by
  unfold fewP at h
  simp only [Bool.and_eq_true, decide_eq_true_eq] at h
  omega
theorem cost_sum : ∀ ws : List Wt, cost ws = sumW ws + ws.length
  | [] => rfl
  | x :: r => by
    have h1 := cost_sum r
    unfold cost sumW at h1 ⊢
    rw [List.map_cons, List.sum_cons, List.map_cons, List.sum_cons, List.length_cons, h1]
    omega
section
variable {w0 W : World} {q p : Nat} {d : Dk.Dsk} {D : Nat → Prop} (h : Env w0 W q p d D)
include h
theorem lit_ops {k : Nat} (e : d.ops = k) : Calls Tryd.prog 14 #[.pointer (some ⟨p, 0, none⟩)] W fun e w' => e = .returned (.int .i64 (k : Nat)) ∧ W = w' := by rw [← e]; exact Dk.Ops_c W D p d h.at_.dat.holds
theorem lit_pend (e : d.row = []) : Calls Tryd.prog 15 #[.pointer (some ⟨p, 0, none⟩)] W fun e w' => e = .returned (.int .i64 0) ∧ W = w' := by
  have h1 := Dk.Pending_c W D p d h.at_.dat.holds
  rw [e] at h1
  exact h1
theorem lit_size {k : Nat} (e : d.n = k) : Calls Tryd.prog 17 #[.pointer (some ⟨p, 0, none⟩)] W fun e w' => e = .returned (.int .i64 (k : Nat)) ∧ W = w' := by rw [← e]; exact Dk.Size_c W D p d h.at_.dat.holds
theorem lit_pages {N m : Nat} (e : d.n = max m (N * 4)) (hm : m = 0 := by rfl) : Calls Tryd.prog 16 #[.pointer (some ⟨q, 0, none⟩)] W fun e w' => e = .returned (.int .i64 (N : Nat)) ∧ W = w' := by
  have h1 := PgPages_c W q p d D h.at_
  rw [e, hm, show max 0 (N * 4) / 4 = N by omega] at h1
  exact h1
end
set_option maxRecDepth 100000 in
set_option maxHeartbeats 6400000 in
theorem pfull_early (w : World) (hG : Gens w) (g ph t x r p l : Int) (A : Option Addr) (n c : Nat) (RA : Option Addr) (rn rc : Nat) (ws : List Wt) (k : Int) (h : Wts w (.slice RA rn rc) ws) (hsum : ∀ y ∈ ws, y.2.length ≤ 140737488355328) (hI : ∀ y ∈ ws, I64v y.1) (hc : fewP ws p n = false ∨ pgRight (okM g ph t x r p l n) p ws = false ∨ k < 0 ∨ (0 ≤ p ∧ p ≤ 40 ∧ 4 * p + 8 < k)) : Calls Tryd.prog 3 #[.slice RA rn rc, .agg #[.int .i64 g, .int .i64 ph, .int .i64 t, .int .i64 x, .int .i64 r, .int .i64 p, .int .i64 l, .slice A n c], .int .i64 k] w (Told w (.bool true)) := by
  obtain ⟨w1, hw1⟩ : ∃ W0, W0 = w.alloc (.cells #[.int .i64 g, .int .i64 ph, .int .i64 t, .int .i64 x, .int .i64 r, .int .i64 p, .int .i64 l, .slice A n c] 25) := ⟨_, rfl⟩
  have HO1 : Hid (Only (w.heap.size ≤ ·) w w1) := Lib.hid (by rw [hw1]; exact (Only.refl _ w).alloc (fun _ h => h) _)
  have HA : Hid (Blk w1 w.heap.size 25 [.int .i64 g, .int .i64 ph, .int .i64 t, .int .i64 x, .int .i64 r, .int .i64 p, .int .i64 l, .slice A n c]) := Lib.hid (by rw [hw1]; exact Blk.new w 25 _)
  have HFW := Lib.hid (Pgfew_w w1 g ph t x r p l A n c RA rn rc ws (Rw.later h HO1.out) hsum)
  have HRR : Hid (∀ W, Only (w.heap.size ≤ ·) w W → Calls Tryd.prog 8 #[.slice RA rn rc, .agg #[.int .i64 g, .int .i64 ph, .int .i64 t, .int .i64 x, .int .i64 r, .int .i64 p, .int .i64 l, .slice A n c]] W (Told W (.bool (pgRight (okM g ph t x r p l n) p ws)))) := Lib.hid (fun W hW => rPgRight_c W g ph t x r p l A n c RA rn rc ws (Rw.later h hW) hI)
  have HAL : Hid (∀ W, Only (w.heap.size ≤ ·) w W → Calls Tryd.prog 9 #[] W (Told W (.bool true))) := Lib.hid fun W hW => Pgalive_c W (hG.later hW)
  obtain ⟨i0, i1, i2, i3, i4, i5, i6, i7⟩ := HA.out.eight
  clear h hsum hG hI
  obtain ⟨f, hf⟩ : ∃ f, f = fewP ws p n := ⟨_, rfl⟩
  obtain ⟨q, hq⟩ : ∃ q, q = pgRight (okM g ph t x r p l n) p ws := ⟨_, rfl⟩
  rw [← hf] at HFW hc
  rw [← hq] at HRR hc
  clear hf hq
  cases f with
  | false =>
    clear hc
    go_enter Tryd.func3, Tryd.ntmps3
    go_upto_region 1 with (fail)
    rw [← hw1]
    clear hw1
    go_wp2_with (first | (go_at_call 7; (with_reducible refine HFW.out.mono ?_); rintro e w2 ⟨rfl, ho⟩; (replace HA := Lib.hid (HA.out.only ho (Nat.not_le.2 HA.out.lt))); (replace HO1 := Lib.hid (on_new HO1.out ho)); clear ho i0 i1 i2 i3 i4 i5 i6 i7; (obtain ⟨i0, i1, i2, i3, i4, i5, i6, i7⟩ := HA.out.eight)) | (go_at_call 8; (with_reducible refine (HRR.out _ HO1.out).mono ?_); rintro e w3 ⟨rfl, ho⟩; (replace HA := Lib.hid (HA.out.only ho (Nat.not_le.2 HA.out.lt))); (replace HO1 := Lib.hid (on_new HO1.out ho)); clear ho i0 i1 i2 i3 i4 i5 i6 i7; (obtain ⟨i0, i1, i2, i3, i4, i5, i6, i7⟩ := HA.out.eight)) | (go_at_call 9; (with_reducible refine (HAL.out _ HO1.out).mono ?_); rintro e w4 ⟨rfl, ho⟩; (replace HO1 := Lib.hid (on_new HO1.out ho)); clear ho))
    go_ret
    exact ⟨rfl, HO1.out⟩
  | true =>
    cases q with
    | false =>
      clear hc
      go_enter Tryd.func3, Tryd.ntmps3
      go_upto_region 1 with (fail)
      rw [← hw1]
      clear hw1
      go_wp2_with (first | (go_at_call 7; (with_reducible refine HFW.out.mono ?_); rintro e w2 ⟨rfl, ho⟩; (replace HA := Lib.hid (HA.out.only ho (Nat.not_le.2 HA.out.lt))); (replace HO1 := Lib.hid (on_new HO1.out ho)); clear ho i0 i1 i2 i3 i4 i5 i6 i7; (obtain ⟨i0, i1, i2, i3, i4, i5, i6, i7⟩ := HA.out.eight)) | (go_at_call 8; (with_reducible refine (HRR.out _ HO1.out).mono ?_); rintro e w3 ⟨rfl, ho⟩; (replace HA := Lib.hid (HA.out.only ho (Nat.not_le.2 HA.out.lt))); (replace HO1 := Lib.hid (on_new HO1.out ho)); clear ho i0 i1 i2 i3 i4 i5 i6 i7; (obtain ⟨i0, i1, i2, i3, i4, i5, i6, i7⟩ := HA.out.eight)) | (go_at_call 9; (with_reducible refine (HAL.out _ HO1.out).mono ?_); rintro e w4 ⟨rfl, ho⟩; (replace HO1 := Lib.hid (on_new HO1.out ho)); clear ho))
      go_ret
      exact ⟨rfl, HO1.out⟩
    | true =>
      have hc' : k < 0 ∨ (0 ≤ p ∧ p ≤ 40 ∧ 4 * p + 8 < k) := (hc.resolve_left (by decide)).resolve_left (by decide)
      clear hc
      by_cases h2 : k < 0
      · clear hc'
        go_enter Tryd.func3, Tryd.ntmps3
        go_upto_region 1 with (fail)
        rw [← hw1]
        clear hw1
        go_wp2_with (first | (go_at_call 7; (with_reducible refine HFW.out.mono ?_); rintro e w2 ⟨rfl, ho⟩; (replace HA := Lib.hid (HA.out.only ho (Nat.not_le.2 HA.out.lt))); (replace HO1 := Lib.hid (on_new HO1.out ho)); clear ho i0 i1 i2 i3 i4 i5 i6 i7; (obtain ⟨i0, i1, i2, i3, i4, i5, i6, i7⟩ := HA.out.eight)) | (go_at_call 8; (with_reducible refine (HRR.out _ HO1.out).mono ?_); rintro e w3 ⟨rfl, ho⟩; (replace HA := Lib.hid (HA.out.only ho (Nat.not_le.2 HA.out.lt))); (replace HO1 := Lib.hid (on_new HO1.out ho)); clear ho i0 i1 i2 i3 i4 i5 i6 i7; (obtain ⟨i0, i1, i2, i3, i4, i5, i6, i7⟩ := HA.out.eight)) | (go_at_call 9; (with_reducible refine (HAL.out _ HO1.out).mono ?_); rintro e w4 ⟨rfl, ho⟩; (replace HO1 := Lib.hid (on_new HO1.out ho)); clear ho))
        go_ret
        exact ⟨rfl, HO1.out⟩
      · have h3 : 4 * p + 8 < k := by omega
        have a1 : wrap64 (4 * p) = 4 * p := IntWalk.wrap64_in _ (by omega)
        have a2 : wrap64 (4 * p + 8) = 4 * p + 8 := IntWalk.wrap64_in _ (by omega)
        clear hc'
        go_enter Tryd.func3, Tryd.ntmps3
        go_upto_region 1 with (fail)
        rw [← hw1]
        clear hw1
        go_wp2_with (first | (go_at_call 7; (with_reducible refine HFW.out.mono ?_); rintro e w2 ⟨rfl, ho⟩; (replace HA := Lib.hid (HA.out.only ho (Nat.not_le.2 HA.out.lt))); (replace HO1 := Lib.hid (on_new HO1.out ho)); clear ho i0 i1 i2 i3 i4 i5 i6 i7; (obtain ⟨i0, i1, i2, i3, i4, i5, i6, i7⟩ := HA.out.eight)) | (go_at_call 8; (with_reducible refine (HRR.out _ HO1.out).mono ?_); rintro e w3 ⟨rfl, ho⟩; (replace HA := Lib.hid (HA.out.only ho (Nat.not_le.2 HA.out.lt))); (replace HO1 := Lib.hid (on_new HO1.out ho)); clear ho i0 i1 i2 i3 i4 i5 i6 i7; (obtain ⟨i0, i1, i2, i3, i4, i5, i6, i7⟩ := HA.out.eight)) | (go_at_call 9; (with_reducible refine (HAL.out _ HO1.out).mono ?_); rintro e w4 ⟨rfl, ho⟩; (replace HO1 := Lib.hid (on_new HO1.out ho)); clear ho))
        go_ret
        exact ⟨rfl, HO1.out⟩

set_option maxRecDepth 100000 in
set_option maxHeartbeats 12800000 in
theorem pfull_main (w : World) (hG : Gens w) (g ph t : Int) (kx : Nat) (r : Int) (N : Nat) (l : Int) (A : Option Addr) (n c : Nat) (RA : Option Addr) (rn rc : Nat) (ws : List Wt) (k : Int) (h : Wts w (.slice RA rn rc) ws) (hsum : ∀ y ∈ ws, y.2.length ≤ 140737488355328) (hI : ∀ y ∈ ws, I64v y.1) (xs : Bytes) (hs : Src w (.slice A n c) xs) (hne : n = xs.length) (hM : ∀ u ∈ [g, ph, t, (kx : Int), r, (N : Int), l], I64 u)
    (hf : fewP ws N n = true) (hq : pgRight (okM g ph t kx r N l n) N ws = true) (hk : 0 ≤ k) (hk' : k ≤ 4 * (N : Int) + 8) : Calls Tryd.prog 3 #[.slice RA rn rc, .agg #[.int .i64 g, .int .i64 ph, .int .i64 t, .int .i64 (kx : Nat), .int .i64 r, .int .i64 (N : Nat), .int .i64 l, .slice A n c], .int .i64 k] w (Told w (.bool true)) := by
  obtain ⟨w1, hw1⟩ : ∃ W0, W0 = w.alloc (.cells #[.int .i64 g, .int .i64 ph, .int .i64 t, .int .i64 (kx : Nat), .int .i64 r, .int .i64 (N : Nat), .int .i64 l, .slice A n c] 25) := ⟨_, rfl⟩
  have HO1 : Hid (Only (w.heap.size ≤ ·) w w1) := Lib.hid (by rw [hw1]; exact (Only.refl _ w).alloc (fun _ h => h) _)
  have HA : Hid (Blk w1 w.heap.size 25 [.int .i64 g, .int .i64 ph, .int .i64 t, .int .i64 (kx : Nat), .int .i64 r, .int .i64 (N : Nat), .int .i64 l, .slice A n c]) := Lib.hid (by rw [hw1]; exact Blk.new w 25 _)
  have HFW := Lib.hid (Pgfew_w w1 g ph t kx r N l A n c RA rn rc ws (Rw.later h HO1.out) hsum)
  have HRR : Hid (∀ W, Only (w.heap.size ≤ ·) w W → Calls Tryd.prog 8 #[.slice RA rn rc, .agg #[.int .i64 g, .int .i64 ph, .int .i64 t, .int .i64 (kx : Nat), .int .i64 r, .int .i64 (N : Nat), .int .i64 l, .slice A n c]] W (Told W (.bool (pgRight (okM g ph t kx r N l n) N ws)))) := Lib.hid (fun W hW => rPgRight_c W g ph t kx r N l A n c RA rn rc ws (Rw.later h hW) hI)
  have HAL : Hid (∀ W, Only (w.heap.size ≤ ·) w W → Calls Tryd.prog 9 #[] W (Told W (.bool true))) := Lib.hid fun W hW => Pgalive_c W (hG.later hW)
  obtain ⟨i0, i1, i2, i3, i4, i5, i6, i7⟩ := HA.out.eight
  rw [hf] at HFW
  rw [hq] at HRR
  have HFF := Lib.hid (few_facts2 hf)
  have HLN := Lib.hid h.len
  have HI := Lib.hid hI
  have HW := Lib.hid h
  have HG := Lib.hid hG
  have HS := Lib.hid hs
  have HNE := Lib.hid hne
  have HMI := Lib.hid hM
  have HQ := Lib.hid hq
  have hrn : rn ≤ 12 := by have h4 := HLN.out; have h5 := HFF.out.1; omega
  have HN40 : Hid (N ≤ 40) := Lib.hid (by have h5 := HFF.out.2.2.1; omega)
  have h2 : ¬ k < 0 := by omega
  have h3 : ¬ 4 * (N : Int) + 8 < k := by omega
  have a1 : wrap64 (4 * (N : Int)) = 4 * (N : Int) := IntWalk.wrap64_in _ (by have h5 := HN40.out; omega)
  have a2 : wrap64 (4 * (N : Int) + 8) = 4 * (N : Int) + 8 := IntWalk.wrap64_in _ (by have h5 := HN40.out; omega)
  have HLB : Hid ((encB [g, ph, t, (kx : Int), r, (N : Int), l] xs).length = 256) := Lib.hid (enc_back (by rw [← hne]; exact (right_facts hq).1)).2.2.2
  have HRM : Hid (Roomy (Dk.Dsk.load [] k) (cost ws + 1000)) := Lib.hid (by
    rw [load_zero, cost_sum]
    have h4 := HFF.out
    exact ⟨by show 0 + _ ≤ _; omega, by show 0 + _ ≤ _; omega⟩)
  clear h hsum hG hf hI hs hne hM hq
  go_enter Tryd.func3, Tryd.ntmps3
  go_upto_region 1 with (fail)
  rw [← hw1]
  clear hw1
  go_upto_region 3 with (first | (go_at_call 7; (with_reducible refine HFW.out.mono ?_); rintro e w2 ⟨rfl, ho⟩; (replace HA := Lib.hid (HA.out.only ho (Nat.not_le.2 HA.out.lt))); (replace HO1 := Lib.hid (on_new HO1.out ho)); clear ho i0 i1 i2 i3 i4 i5 i6 i7; (obtain ⟨i0, i1, i2, i3, i4, i5, i6, i7⟩ := HA.out.eight)) | (go_at_call 8; (with_reducible refine (HRR.out _ HO1.out).mono ?_); rintro e w3 ⟨rfl, ho⟩; (replace HA := Lib.hid (HA.out.only ho (Nat.not_le.2 HA.out.lt))); (replace HO1 := Lib.hid (on_new HO1.out ho)); clear ho i0 i1 i2 i3 i4 i5 i6 i7; (obtain ⟨i0, i1, i2, i3, i4, i5, i6, i7⟩ := HA.out.eight)))
  clear i0 i1 i2 i3 i4 i5 i6 i7 HFW HRR
  go_upto_region 4 with (go_at_call 10; (with_reducible refine (DNew_d _ k).mono ?_); rintro e w5 ⟨dp, D, rfl, hd, h0, ho⟩; have HD5 := Lib.hid hd; have HN5 : Hid ((∀ k', D k' → w.heap.size ≤ k') ∧ ¬ D w.heap.size) := Lib.hid ⟨fun k' hk' => Nat.le_trans HO1.out.size (h0 k' hk'), fun hk' => by have h8 := h0 _ hk'; have h9 := HA.out.lt; omega⟩; (replace HA := Lib.hid (HA.out.only ho (Nat.not_le.2 HA.out.lt))); (replace HO1 := Lib.hid (on_new HO1.out ho)); clear hd h0 ho)
  go_upto_region 7 with (go_at_call 11; (with_reducible refine (PgNew_c _ dp _ D HD5.out).mono ?_); rintro e w6 ⟨q, rfl, hp, ho⟩; have HE : Hid (Env w w6 q dp (Dk.Dsk.load [] k) D) := Lib.hid ⟨hp, HN5.out.1, on_new HO1.out ho⟩; (replace HA := Lib.hid (HA.out.only ho (Nat.not_le.2 HA.out.lt))); clear hp ho)
  have HBD := Lib.hid HN5.out.2
  clear HO1 HN5 HD5
  have HOW : Hid (Only (w.heap.size ≤ ·) w w6) := Lib.hid HE.out.only
  have KV : Hid (∀ W : World, Only (w6.heap.size ≤ ·) w6 W → (fun W : World => W.cell? ⟨w.heap.size, 0, none⟩ = some (.int .i64 g) ∧ W.cell? ⟨w.heap.size, 1, none⟩ = some (.int .i64 ph) ∧ W.cell? ⟨w.heap.size, 2, none⟩ = some (.int .i64 t) ∧ W.cell? ⟨w.heap.size, 3, none⟩ = some (.int .i64 (kx : Nat)) ∧ W.cell? ⟨w.heap.size, 4, none⟩ = some (.int .i64 r) ∧ W.cell? ⟨w.heap.size, 5, none⟩ = some (.int .i64 (N : Nat)) ∧ W.cell? ⟨w.heap.size, 6, none⟩ = some (.int .i64 l) ∧ W.cell? ⟨w.heap.size, 7, none⟩ = some (.slice A n c)) W) := Lib.hid (fun W hW => (HA.out.only hW (Nat.not_le.2 HA.out.lt)).eight)
  have KV2 : Hid (∀ W W' : World, Only (w6.heap.size ≤ ·) w6 W → Only (fun k => D k ∨ W.heap.size ≤ k) W W' → (fun W : World => W.cell? ⟨w.heap.size, 0, none⟩ = some (.int .i64 g) ∧ W.cell? ⟨w.heap.size, 1, none⟩ = some (.int .i64 ph) ∧ W.cell? ⟨w.heap.size, 2, none⟩ = some (.int .i64 t) ∧ W.cell? ⟨w.heap.size, 3, none⟩ = some (.int .i64 (kx : Nat)) ∧ W.cell? ⟨w.heap.size, 4, none⟩ = some (.int .i64 r) ∧ W.cell? ⟨w.heap.size, 5, none⟩ = some (.int .i64 (N : Nat)) ∧ W.cell? ⟨w.heap.size, 6, none⟩ = some (.int .i64 l) ∧ W.cell? ⟨w.heap.size, 7, none⟩ = some (.slice A n c)) W') := Lib.hid (fun W W' hW hW' => ((HA.out.only hW (Nat.not_le.2 HA.out.lt)).only hW' (fun hk => hk.elim HBD.out (fun h9 => by have h8 := HA.out.lt; have h7 := hW.size; omega))).eight)
  have HV0 : Hid (Only (w6.heap.size ≤ ·) w6 w6.drew) := Lib.hid ((Only.refl _ w6).drew)
  have HSV := Lib.hid (KV.out _ HV0.out)
  by_cases h4 : 4 * (N : Int) ≤ k
  · obtain ⟨dd, er, hEQ⟩ : ∃ dd er, cmP (Dk.Dsk.load [] k) (okM g ph t kx r N l n) N kx ws (encB [g, ph, t, (kx : Int), r, (N : Int), l] xs) = (dd, er) := ⟨_, _, rfl⟩
    have hdn := full_yes (limit := k) HQ.out HLB.out (by omega) HN40.out
    rw [hEQ] at hdn
    obtain rfl : er = 0 := hdn.err
    have HD : Hid (Done (Dk.Dsk.load [] k) (ws.length + 4) N (dd, 0)) := Lib.hid hdn
    have HEQ := Lib.hid hEQ
    clear hEQ hdn
    refine wp_region_list (B := [false, false, false, false, false, false]) (S := (fun W : World => W.cell? ⟨w.heap.size, 0, none⟩ = some (.int .i64 g) ∧ W.cell? ⟨w.heap.size, 1, none⟩ = some (.int .i64 ph) ∧ W.cell? ⟨w.heap.size, 2, none⟩ = some (.int .i64 t) ∧ W.cell? ⟨w.heap.size, 3, none⟩ = some (.int .i64 (kx : Nat)) ∧ W.cell? ⟨w.heap.size, 4, none⟩ = some (.int .i64 r) ∧ W.cell? ⟨w.heap.size, 5, none⟩ = some (.int .i64 (N : Nat)) ∧ W.cell? ⟨w.heap.size, 6, none⟩ = some (.int .i64 l) ∧ W.cell? ⟨w.heap.size, 7, none⟩ = some (.slice A n c))) (by kernel_rfl) (by kernel_rfl) (by kernel_rfl) HSV.out (fun hsel hHeld => ?_)
    generalize hwz : World.drew _ = wv0 at HV0 HSV hHeld ⊢
    clear hwz
    refine oneA 0 39 hsel (h := ?_)
    simp only [Act.put, List.setIfInBounds_toArray, List.set_cons_zero, List.set_cons_succ]
    refine oneA 1 40 hsel (h := ?_)
    simp only [Act.put, List.setIfInBounds_toArray, List.set_cons_zero, List.set_cons_succ]
    refine oneA 3 42 hsel (h := ?_)
    simp only [Act.put, List.setIfInBounds_toArray, List.set_cons_zero, List.set_cons_succ]
    refine wpAnyL_ready (rs := [2]) (by kernel_rfl) (by kernel_rfl) (by simp) ?_
    refine AllReadyL.cons (o := ?_) ?_ (fun K hK => ?_) AllReadyL.nil
    case refine_2 => (simp only [List.getElem?_cons_succ, List.getElem?_cons_zero]; rfl)
    go_simp
    (go_at_call 13; (with_reducible refine (of_0 w _ RA rn rc ws HW.out (on_new HOW.out HV0.out) (by omega)).mono ?_); rintro e wv1 ⟨R, tt, C, rfl, hden, hown, ho⟩; have HV1 := Lib.hid (on_new HV0.out ho); have HSR : Hid (SRw wrE D wv1 (.slice R rn tt) ws) := Lib.hid (srw_of hden hown HLN.out (fun k' hk' => ⟨HE.out.new k' hk', Nat.lt_of_lt_of_le (HE.out.off k' hk') HV0.out.size⟩) (on_new HOW.out HV1.out)); clear hden hown ho)
    go_wp2_with (fail)
    clear hHeld
    refine hK.out _ _ (KV.out _ HV1.out) (fun hHeld => ?_)
    clear hK K
    try simp only [Act.put, List.setIfInBounds_toArray, List.set_cons_zero, List.set_cons_succ]
    refine wpAnyL_ready (rs := [4]) (by kernel_rfl) (by kernel_rfl) (by simp) ?_
    refine AllReadyL.cons (o := ?_) ?_ (fun K hK => ?_) AllReadyL.nil
    case refine_2 => (simp only [List.getElem?_cons_succ, List.getElem?_cons_zero]; rfl)
    have HCM := Lib.hid (show Calls _ _ _ _ _ from by have h9 := PgCommit_c wv1 q dp (Dk.Dsk.load [] k) D (HE.out.later HV1.out).at_ (HG.out.later (on_new HOW.out HV1.out)) g ph t kx r N l A n c xs (HS.out.later (on_new HOW.out HV1.out)) HNE.out HMI.out R rn tt ws HSR.out (by omega) (fun y hy => (HI.out y hy).2) HRM.out; rw [HEQ.out] at h9; exact h9)
    go_simp
    (go_at_call 12; (with_reducible refine HCM.out.mono ?_); rintro e wv2 ⟨rfl, hg⟩; have HGV := Lib.hid hg; clear hg)
    go_wp2_with (fail)
    clear hHeld
    refine hK.out _ _ (KV2.out _ _ HV1.out HGV.out.1) (fun hHeld => ?_)
    clear hK K
    try simp only [Act.put, List.setIfInBounds_toArray, List.set_cons_zero, List.set_cons_succ]
    refine oneA 5 9 hsel (h := ?_)
    simp only [Act.put, List.setIfInBounds_toArray, List.set_cons_zero, List.set_cons_succ]
    refine wpAnyL_done (by kernel_rfl) (by kernel_rfl) ?_ _
    clear hsel hHeld
    obtain ⟨D8, he8, ho8, hs8⟩ := (HE.out.later HV1.out).gave HGV.out
    have HE8 := Lib.hid he8
    have HA8 := Lib.hid (KV2.out _ _ HV1.out HGV.out.1)
    clear he8 ho8 hs8
    obtain ⟨i0, i1, i2, i3, i4, i5, i6, i7⟩ := HA8.out
    go_upto_region 9 with (fail)
    clear i0 i1 i2 i3 i4 i5 i6 i7
    have HQ0 : Hid (Only (wv2.heap.size ≤ ·) wv2 wv2.drew) := Lib.hid ((Only.refl _ wv2).drew)
    have KQ : Hid (∀ W : World, Only (wv2.heap.size ≤ ·) wv2 W → (fun W : World => W.cell? ⟨w.heap.size, 0, none⟩ = some (.int .i64 g) ∧ W.cell? ⟨w.heap.size, 1, none⟩ = some (.int .i64 ph) ∧ W.cell? ⟨w.heap.size, 2, none⟩ = some (.int .i64 t) ∧ W.cell? ⟨w.heap.size, 3, none⟩ = some (.int .i64 (kx : Nat)) ∧ W.cell? ⟨w.heap.size, 4, none⟩ = some (.int .i64 r) ∧ W.cell? ⟨w.heap.size, 5, none⟩ = some (.int .i64 (N : Nat)) ∧ W.cell? ⟨w.heap.size, 6, none⟩ = some (.int .i64 l) ∧ W.cell? ⟨w.heap.size, 7, none⟩ = some (.slice A n c)) W) := Lib.hid (fun W hW => by
      obtain ⟨i0, i1, i2, i3, i4, i5, i6, i7⟩ := HA8.out
      exact ⟨cell_later i0 hW, cell_later i1 hW, cell_later i2 hW, cell_later i3 hW, cell_later i4 hW, cell_later i5 hW, cell_later i6 hW, cell_later i7 hW⟩)
    have HSQ := Lib.hid (KQ.out _ HQ0.out)
    have HDO : Hid (dd.ops = rn + 4) := Lib.hid (by
      have h9 : dd.ops = (Dk.Dsk.load [] k).ops + (ws.length + 4) := HD.out.ops
      have h8 : (Dk.Dsk.load [] k).ops = 0 := by rw [load_zero]
      rw [h8, ← HLN.out] at h9
      omega)
    have HDN : Hid (dd.n = max 0 (N * 4)) := Lib.hid (by
      have h9 : dd.n = max (Dk.Dsk.load [] k).n (N * 4) := HD.out.n
      rwa [load_zero] at h9)
    have b1 : IntKind.i64.wrap ((rn : Int) + 4) = ((rn + 4 : Nat) : Int) := by rw [IntWalk.i64_in _ (by omega)]; omega
    refine wp_region_list (B := [false, false, false, false, false, false, false, false, false, false, false, false, false, false, false, false, false, false, false, false, false, false, false, false, false, false]) (S := (fun W : World => W.cell? ⟨w.heap.size, 0, none⟩ = some (.int .i64 g) ∧ W.cell? ⟨w.heap.size, 1, none⟩ = some (.int .i64 ph) ∧ W.cell? ⟨w.heap.size, 2, none⟩ = some (.int .i64 t) ∧ W.cell? ⟨w.heap.size, 3, none⟩ = some (.int .i64 (kx : Nat)) ∧ W.cell? ⟨w.heap.size, 4, none⟩ = some (.int .i64 r) ∧ W.cell? ⟨w.heap.size, 5, none⟩ = some (.int .i64 (N : Nat)) ∧ W.cell? ⟨w.heap.size, 6, none⟩ = some (.int .i64 l) ∧ W.cell? ⟨w.heap.size, 7, none⟩ = some (.slice A n c))) (by kernel_rfl) (by kernel_rfl) (by kernel_rfl) HSQ.out (fun hsel hHeld => ?_)
    generalize hwz : World.drew _ = wq0 at HQ0 HSQ hHeld ⊢
    clear hwz
    refine wpAnyL_ready (rs := [0]) (by kernel_rfl) (by kernel_rfl) (by simp) ?_
    refine AllReadyL.cons (o := ?_) ?_ (fun K hK => ?_) AllReadyL.nil
    case refine_2 => (simp only [List.getElem?_cons_zero]; rfl)
    go_simp
    (go_at_call 9; (with_reducible refine (HAL.out _ (on_new HE8.out.only HQ0.out)).mono ?_); rintro e wq1 ⟨rfl, ho⟩; have HQ1 := Lib.hid (on_new HQ0.out ho); have HE9 := Lib.hid (HE8.out.later HQ1.out); clear ho)
    go_wp2_with (fail)
    clear hHeld
    refine hK.out _ _ (KQ.out _ HQ1.out) (fun hHeld => ?_)
    clear hK K
    try simp only [Act.put, List.setIfInBounds_toArray, List.set_cons_zero, List.set_cons_succ]
    refine oneA 1 50 hsel (h := ?_)
    simp only [Act.put, List.setIfInBounds_toArray, List.set_cons_zero, List.set_cons_succ]
    refine oneA 2 51 hsel (h := ?_)
    simp only [Act.put, List.setIfInBounds_toArray, List.set_cons_zero, List.set_cons_succ]
    refine oneA 3 52 hsel (h := ?_)
    simp only [Act.put, List.setIfInBounds_toArray, List.set_cons_zero, List.set_cons_succ]
    refine oneA 4 53 hsel (h := ?_)
    simp only [Act.put, List.setIfInBounds_toArray, List.set_cons_zero, List.set_cons_succ]
    refine oneA 5 54 hsel (h := ?_)
    simp only [Act.put, List.setIfInBounds_toArray, List.set_cons_zero, List.set_cons_succ]
    refine oneA 6 55 hsel (h := ?_)
    simp only [Act.put, List.setIfInBounds_toArray, List.set_cons_zero, List.set_cons_succ]
    refine oneA 8 57 hsel (h := ?_)
    simp only [Act.put, List.setIfInBounds_toArray, List.set_cons_zero, List.set_cons_succ]
    refine oneA 9 58 hsel (h := ?_)
    simp only [Act.put, List.setIfInBounds_toArray, List.set_cons_zero, List.set_cons_succ]
    refine oneA 10 59 hsel (h := ?_)
    simp only [Act.put, List.setIfInBounds_toArray, List.set_cons_zero, List.set_cons_succ]
    refine wpAnyL_ready (rs := [7]) (by kernel_rfl) (by kernel_rfl) (by simp) ?_
    refine AllReadyL.cons (o := ?_) ?_ (fun K hK => ?_) AllReadyL.nil
    case refine_2 => (simp only [List.getElem?_cons_succ, List.getElem?_cons_zero]; rfl)
    go_simp
    (go_at_call 14; (with_reducible refine (lit_ops HE9.out HDO.out).mono ?_); rintro e wq2 ⟨rfl, rfl⟩)
    go_wp2_with (fail)
    clear hHeld
    refine hK.out _ _ (KQ.out _ HQ1.out) (fun hHeld => ?_)
    clear hK K
    try simp only [Act.put, List.setIfInBounds_toArray, List.set_cons_zero, List.set_cons_succ]
    refine oneA 11 60 hsel (h := ?_)
    simp only [Act.put, List.setIfInBounds_toArray, List.set_cons_zero, List.set_cons_succ]
    refine oneA 12 61 hsel (h := ?_)
    simp only [Act.put, List.setIfInBounds_toArray, List.set_cons_zero, List.set_cons_succ]
    refine oneA 13 62 hsel (h := ?_)
    simp only [Act.put, List.setIfInBounds_toArray, List.set_cons_zero, List.set_cons_succ]
    refine oneA 14 63 hsel (h := ?_)
    simp only [Act.put, List.setIfInBounds_toArray, List.set_cons_zero, List.set_cons_succ]
    refine wpAnyL_ready (rs := [15]) (by kernel_rfl) (by kernel_rfl) (by simp) ?_
    refine AllReadyL.cons (o := ?_) ?_ (fun K hK => ?_) AllReadyL.nil
    case refine_2 => (simp only [List.getElem?_cons_succ, List.getElem?_cons_zero]; rfl)
    go_simp
    (go_at_call 15; (with_reducible refine (lit_pend HE9.out HD.out.row).mono ?_); rintro e wq3 ⟨rfl, rfl⟩)
    go_wp2_with (fail)
    clear hHeld
    refine hK.out _ _ (KQ.out _ HQ1.out) (fun hHeld => ?_)
    clear hK K
    try simp only [Act.put, List.setIfInBounds_toArray, List.set_cons_zero, List.set_cons_succ]
    refine oneA 16 65 hsel (h := ?_)
    simp only [Act.put, List.setIfInBounds_toArray, List.set_cons_zero, List.set_cons_succ]
    refine oneA 17 66 hsel (h := ?_)
    simp only [Act.put, List.setIfInBounds_toArray, List.set_cons_zero, List.set_cons_succ]
    refine oneA 18 67 hsel (h := ?_)
    simp only [Act.put, List.setIfInBounds_toArray, List.set_cons_zero, List.set_cons_succ]
    refine oneA 19 68 hsel (h := ?_)
    simp only [Act.put, List.setIfInBounds_toArray, List.set_cons_zero, List.set_cons_succ]
    refine oneA 21 70 hsel (h := ?_)
    simp only [Act.put, List.setIfInBounds_toArray, List.set_cons_zero, List.set_cons_succ]
    refine oneA 22 71 hsel (h := ?_)
    simp only [Act.put, List.setIfInBounds_toArray, List.set_cons_zero, List.set_cons_succ]
    refine wpAnyL_ready (rs := [20]) (by kernel_rfl) (by kernel_rfl) (by simp) ?_
    refine AllReadyL.cons (o := ?_) ?_ (fun K hK => ?_) AllReadyL.nil
    case refine_2 => (simp only [List.getElem?_cons_succ, List.getElem?_cons_zero]; rfl)
    go_simp
    (go_at_call 16; (with_reducible refine (lit_pages HE9.out HDN.out).mono ?_); rintro e wq4 ⟨rfl, rfl⟩)
    go_wp2_with (fail)
    clear hHeld
    refine hK.out _ _ (KQ.out _ HQ1.out) (fun hHeld => ?_)
    clear hK K
    try simp only [Act.put, List.setIfInBounds_toArray, List.set_cons_zero, List.set_cons_succ]
    refine oneA 23 72 hsel (h := ?_)
    simp only [Act.put, List.setIfInBounds_toArray, List.set_cons_zero, List.set_cons_succ]
    refine oneA 24 73 hsel (h := ?_)
    simp only [Act.put, List.setIfInBounds_toArray, List.set_cons_zero, List.set_cons_succ]
    refine oneA 25 6 hsel (h := ?_)
    simp only [Act.put, List.setIfInBounds_toArray, List.set_cons_zero, List.set_cons_succ]
    refine wpAnyL_done (by kernel_rfl) (by kernel_rfl) ?_ _
    clear hsel hHeld
    go_wp2_with (fail)
    go_ret
    exact ⟨rfl, HE9.out.only⟩
  · have hno := full_no (limit := k) (b := encB [g, ph, t, (kx : Int), r, (N : Int), l] xs) HQ.out (by omega) HN40.out
    have HEQ := Lib.hid hno
    have HZ0 : Hid ((Dk.Dsk.load [] k).ops = 0 ∧ (Dk.Dsk.load [] k).n = 0) := Lib.hid (by rw [load_zero]; exact ⟨rfl, rfl⟩)
    have h4' : k < 4 * (N : Int) := by omega
    clear hno h4
    refine wp_region_list (B := [false, false, false, false, false, false]) (S := (fun W : World => W.cell? ⟨w.heap.size, 0, none⟩ = some (.int .i64 g) ∧ W.cell? ⟨w.heap.size, 1, none⟩ = some (.int .i64 ph) ∧ W.cell? ⟨w.heap.size, 2, none⟩ = some (.int .i64 t) ∧ W.cell? ⟨w.heap.size, 3, none⟩ = some (.int .i64 (kx : Nat)) ∧ W.cell? ⟨w.heap.size, 4, none⟩ = some (.int .i64 r) ∧ W.cell? ⟨w.heap.size, 5, none⟩ = some (.int .i64 (N : Nat)) ∧ W.cell? ⟨w.heap.size, 6, none⟩ = some (.int .i64 l) ∧ W.cell? ⟨w.heap.size, 7, none⟩ = some (.slice A n c))) (by kernel_rfl) (by kernel_rfl) (by kernel_rfl) HSV.out (fun hsel hHeld => ?_)
    generalize hwz : World.drew _ = wv0 at HV0 HSV hHeld ⊢
    clear hwz
    refine oneA 0 39 hsel (h := ?_)
    simp only [Act.put, List.setIfInBounds_toArray, List.set_cons_zero, List.set_cons_succ]
    refine oneA 1 40 hsel (h := ?_)
    simp only [Act.put, List.setIfInBounds_toArray, List.set_cons_zero, List.set_cons_succ]
    refine oneA 3 42 hsel (h := ?_)
    simp only [Act.put, List.setIfInBounds_toArray, List.set_cons_zero, List.set_cons_succ]
    refine wpAnyL_ready (rs := [2]) (by kernel_rfl) (by kernel_rfl) (by simp) ?_
    refine AllReadyL.cons (o := ?_) ?_ (fun K hK => ?_) AllReadyL.nil
    case refine_2 => (simp only [List.getElem?_cons_succ, List.getElem?_cons_zero]; rfl)
    go_simp
    (go_at_call 13; (with_reducible refine (of_0 w _ RA rn rc ws HW.out (on_new HOW.out HV0.out) (by omega)).mono ?_); rintro e wv1 ⟨R, tt, C, rfl, hden, hown, ho⟩; have HV1 := Lib.hid (on_new HV0.out ho); have HSR : Hid (SRw wrE D wv1 (.slice R rn tt) ws) := Lib.hid (srw_of hden hown HLN.out (fun k' hk' => ⟨HE.out.new k' hk', Nat.lt_of_lt_of_le (HE.out.off k' hk') HV0.out.size⟩) (on_new HOW.out HV1.out)); clear hden hown ho)
    go_wp2_with (fail)
    clear hHeld
    refine hK.out _ _ (KV.out _ HV1.out) (fun hHeld => ?_)
    clear hK K
    try simp only [Act.put, List.setIfInBounds_toArray, List.set_cons_zero, List.set_cons_succ]
    refine wpAnyL_ready (rs := [4]) (by kernel_rfl) (by kernel_rfl) (by simp) ?_
    refine AllReadyL.cons (o := ?_) ?_ (fun K hK => ?_) AllReadyL.nil
    case refine_2 => (simp only [List.getElem?_cons_succ, List.getElem?_cons_zero]; rfl)
    have HCM := Lib.hid (show Calls _ _ _ _ _ from by have h9 := PgCommit_c wv1 q dp (Dk.Dsk.load [] k) D (HE.out.later HV1.out).at_ (HG.out.later (on_new HOW.out HV1.out)) g ph t kx r N l A n c xs (HS.out.later (on_new HOW.out HV1.out)) HNE.out HMI.out R rn tt ws HSR.out (by omega) (fun y hy => (HI.out y hy).2) HRM.out; rw [HEQ.out] at h9; exact h9)
    go_simp
    (go_at_call 12; (with_reducible refine HCM.out.mono ?_); rintro e wv2 ⟨rfl, hg⟩; have HGV := Lib.hid hg; clear hg)
    go_wp2_with (fail)
    clear hHeld
    refine hK.out _ _ (KV2.out _ _ HV1.out HGV.out.1) (fun hHeld => ?_)
    clear hK K
    try simp only [Act.put, List.setIfInBounds_toArray, List.set_cons_zero, List.set_cons_succ]
    refine oneA 5 9 hsel (h := ?_)
    simp only [Act.put, List.setIfInBounds_toArray, List.set_cons_zero, List.set_cons_succ]
    refine wpAnyL_done (by kernel_rfl) (by kernel_rfl) ?_ _
    clear hsel hHeld
    obtain ⟨D8, he8, ho8, hs8⟩ := (HE.out.later HV1.out).gave HGV.out
    have HE8 := Lib.hid he8
    have HA8 := Lib.hid (KV2.out _ _ HV1.out HGV.out.1)
    clear he8 ho8 hs8
    obtain ⟨i0, i1, i2, i3, i4, i5, i6, i7⟩ := HA8.out
    go_upto_region 10 with (fail)
    clear i0 i1 i2 i3 i4 i5 i6 i7
    have HQ0 : Hid (Only (wv2.heap.size ≤ ·) wv2 wv2.drew) := Lib.hid ((Only.refl _ wv2).drew)
    have KQ : Hid (∀ W : World, Only (wv2.heap.size ≤ ·) wv2 W → (fun W : World => W.cell? ⟨w.heap.size, 0, none⟩ = some (.int .i64 g) ∧ W.cell? ⟨w.heap.size, 1, none⟩ = some (.int .i64 ph) ∧ W.cell? ⟨w.heap.size, 2, none⟩ = some (.int .i64 t) ∧ W.cell? ⟨w.heap.size, 3, none⟩ = some (.int .i64 (kx : Nat)) ∧ W.cell? ⟨w.heap.size, 4, none⟩ = some (.int .i64 r) ∧ W.cell? ⟨w.heap.size, 5, none⟩ = some (.int .i64 (N : Nat)) ∧ W.cell? ⟨w.heap.size, 6, none⟩ = some (.int .i64 l) ∧ W.cell? ⟨w.heap.size, 7, none⟩ = some (.slice A n c)) W) := Lib.hid (fun W hW => by
      obtain ⟨i0, i1, i2, i3, i4, i5, i6, i7⟩ := HA8.out
      exact ⟨cell_later i0 hW, cell_later i1 hW, cell_later i2 hW, cell_later i3 hW, cell_later i4 hW, cell_later i5 hW, cell_later i6 hW, cell_later i7 hW⟩)
    have HSQ := Lib.hid (KQ.out _ HQ0.out)
    go_wp2_with (first | (go_at_call 9; (with_reducible refine (HAL.out _ HE8.out.only).mono ?_); rintro e wq1 ⟨rfl, ho⟩; have HE9 := Lib.hid (HE8.out.later ho); clear ho) | (go_at_call 14; (with_reducible refine (lit_ops HE9.out HZ0.out.1).mono ?_); rintro e wq2 ⟨rfl, rfl⟩) | (go_at_call 17; (with_reducible refine (lit_size HE9.out HZ0.out.2).mono ?_); rintro e wq3 ⟨rfl, rfl⟩))
    go_ret
    exact ⟨rfl, HE9.out.only⟩
theorem pfull_c (w : World) (hG : Gens w) (g ph t x r p l : Int) (A : Option Addr) (n c : Nat) (RA : Option Addr) (rn rc : Nat) (ws : List Wt) (k : Int) (h : Wts w (.slice RA rn rc) ws) (hsum : ∀ y ∈ ws, y.2.length ≤ 140737488355328) (hI : ∀ y ∈ ws, I64v y.1) (xs : Bytes) (hs : Src w (.slice A n c) xs) (hne : n = xs.length) (hM : ∀ u ∈ [g, ph, t, x, r, p, l], I64 u) : Calls Tryd.prog 3 #[.slice RA rn rc, .agg #[.int .i64 g, .int .i64 ph, .int .i64 t, .int .i64 x, .int .i64 r, .int .i64 p, .int .i64 l, .slice A n c], .int .i64 k] w (Told w (.bool true)) := by
  by_cases hc : fewP ws p n = false ∨ pgRight (okM g ph t x r p l n) p ws = false ∨ k < 0 ∨ (0 ≤ p ∧ p ≤ 40 ∧ 4 * p + 8 < k)
  · exact pfull_early w hG g ph t x r p l A n c RA rn rc ws k h hsum hI hc
  · have h1 : fewP ws p n = true := by
      rw [← Bool.not_eq_false]
      exact fun e => hc (.inl e)
    have h2 : pgRight (okM g ph t x r p l n) p ws = true := by
      rw [← Bool.not_eq_false]
      exact fun e => hc (.inr (.inl e))
    have h3 : ¬ (k < 0 ∨ (0 ≤ p ∧ p ≤ 40 ∧ 4 * p + 8 < k)) := fun e => hc (.inr (.inr e))
    have h4 := (few_facts2 h1).2.2.1
    obtain ⟨N, kx, rfl, rfl, h5, h6, h7, h8⟩ := okM_facts (right_facts h2).1
    exact pfull_main w hG g ph t kx r N l A n c RA rn rc ws k h hsum hI xs hs hne hM h1 h2 (by omega) (by omega)
end Go.Proofs.YtopaponemjaenaaDoor
