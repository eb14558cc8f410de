/-
  PagerRight: the walk.
-/
import Derived.Test.YtopaponemjaenaaDoorPgh
set_option linter.unusedVariables false
namespace Go.Proofs.YtopaponemjaenaaDoor
open Go.RowKit

theorem of_w (W : World) (A : Option Addr) (n c : Nat) (l : List Wt) (h : Wts W (.slice A n c) l) (hn : n ≤ 1000) : Calls Tryd.prog 13 #[.slice A n c] W fun e w' => ∃ (R : Option Addr) (t : Nat) (C : List Value), e = .returned (.slice R n t) ∧ (∀ W', Only (W.heap.size ≤ ·) W W' → Den (wrE.At W') l C) ∧ w'.ownsRow W.heap.size 41 2 (.slice R n t) n C ∧ Only (W.heap.size ≤ ·) W w' := by
  have h1 := Pgof_c W A n c l h hn
  have hl := h.len
  unfold GaveWs at h1
  rw [← hl] at h1
  exact h1
theorem few_facts {ws : List Wt} {p : Int} {n : Nat} (h : fewP ws p n = true) : ws.length ≤ 12 ∧ sumW ws ≤ 5120 ∧ p ≤ 40 ∧ n ≤ 100 := by
  unfold fewP at h
  simp only [Bool.and_eq_true, decide_eq_true_eq] at h
  omega
set_option maxRecDepth 100000 in
set_option maxHeartbeats 6400000 in
theorem pright_early (w : World) (hG : Gens w) (g ph t x r p l : Int) (A : Option Addr) (n c : Nat) (RA : Option Addr) (rn rc : Nat) (ws : List Wt) (k : Int) (h : Wts w (.slice RA rn rc) ws) (hsum : ∀ y ∈ ws, y.2.length ≤ 140737488355328) (hc : fewP ws p n = false ∨ rn = 0 ∨ k < 0 ∨ (rn : Int) ≤ k) : Calls Tryd.prog 4 #[.slice RA rn rc, .agg #[.int .i64 g, .int .i64 ph, .int .i64 t, .int .i64 x, .int .i64 r, .int .i64 p, .int .i64 l, .slice A n c], .int .i64 k] w (Told w (.bool true)) := by
  obtain ⟨w1, hw1⟩ : ∃ W0, W0 = w.alloc (.cells #[.int .i64 g, .int .i64 ph, .int .i64 t, .int .i64 x, .int .i64 r, .int .i64 p, .int .i64 l, .slice A n c] 25) := ⟨_, rfl⟩
  have HO1 : Hid (Only (w.heap.size ≤ ·) w w1) := Lib.hid (by rw [hw1]; exact (Only.refl _ w).alloc (fun _ h => h) _)
  have HA : Hid (Blk w1 w.heap.size 25 [.int .i64 g, .int .i64 ph, .int .i64 t, .int .i64 x, .int .i64 r, .int .i64 p, .int .i64 l, .slice A n c]) := Lib.hid (by rw [hw1]; exact Blk.new w 25 _)
  have HFW := Lib.hid (Pgfew_w w1 g ph t x r p l A n c RA rn rc ws (Rw.later h HO1.out) hsum)
  have HAL : Hid (∀ W, Only (w.heap.size ≤ ·) w W → Calls Tryd.prog 9 #[] W (Told W (.bool true))) := Lib.hid fun W hW => Pgalive_c W (hG.later hW)
  obtain ⟨i0, i1, i2, i3, i4, i5, i6, i7⟩ := HA.out.eight
  have HW := Lib.hid h
  have HG := Lib.hid hG
  clear h hsum hG
  obtain ⟨f, hf⟩ : ∃ f, f = fewP ws p n := ⟨_, rfl⟩
  rw [← hf] at HFW hc
  clear hf
  cases f with
  | false =>
    clear hc
    go_enter Tryd.func4, Tryd.ntmps4
    go_upto_region 1 with (fail)
    rw [← hw1]
    clear hw1
    go_wp2_with (first | (go_at_call 7; (with_reducible refine HFW.out.mono ?_); rintro e w2 ⟨rfl, ho⟩; (replace HO1 := Lib.hid (on_new HO1.out ho)); clear ho) | (go_at_call 9; (with_reducible refine (HAL.out _ HO1.out).mono ?_); rintro e w3 ⟨rfl, ho⟩; (replace HO1 := Lib.hid (on_new HO1.out ho)); clear ho))
    go_ret
    exact ⟨rfl, HO1.out⟩
  | true =>
    have hc' : rn = 0 ∨ k < 0 ∨ (rn : Int) ≤ k := hc.resolve_left (by decide)
    clear hc
    by_cases h1 : rn = 0
    · subst h1
      clear hc'
      go_enter Tryd.func4, Tryd.ntmps4
      go_upto_region 1 with (fail)
      rw [← hw1]
      clear hw1
      go_wp2_with (first | (go_at_call 7; (with_reducible refine HFW.out.mono ?_); rintro e w2 ⟨rfl, ho⟩; (replace HO1 := Lib.hid (on_new HO1.out ho)); clear ho) | (go_at_call 9; (with_reducible refine (HAL.out _ HO1.out).mono ?_); rintro e w3 ⟨rfl, ho⟩; (replace HO1 := Lib.hid (on_new HO1.out ho)); clear ho))
      go_ret
      exact ⟨rfl, HO1.out⟩
    · have hb : ((rn : Int) == 0) = false := by rw [beq_eq_false_iff_ne]; omega
      by_cases h2 : k < 0
      · clear hc'
        go_enter Tryd.func4, Tryd.ntmps4
        go_upto_region 1 with (fail)
        rw [← hw1]
        clear hw1
        go_wp2_with (first | (go_at_call 7; (with_reducible refine HFW.out.mono ?_); rintro e w2 ⟨rfl, ho⟩; (replace HO1 := Lib.hid (on_new HO1.out ho)); clear ho) | (go_at_call 9; (with_reducible refine (HAL.out _ HO1.out).mono ?_); rintro e w3 ⟨rfl, ho⟩; (replace HO1 := Lib.hid (on_new HO1.out ho)); clear ho))
        go_ret
        exact ⟨rfl, HO1.out⟩
      · have h3 : (rn : Int) ≤ k := by omega
        clear hc'
        go_enter Tryd.func4, Tryd.ntmps4
        go_upto_region 1 with (fail)
        rw [← hw1]
        clear hw1
        go_wp2_with (first | (go_at_call 7; (with_reducible refine HFW.out.mono ?_); rintro e w2 ⟨rfl, ho⟩; (replace HO1 := Lib.hid (on_new HO1.out ho)); clear ho) | (go_at_call 9; (with_reducible refine (HAL.out _ HO1.out).mono ?_); rintro e w3 ⟨rfl, ho⟩; (replace HO1 := Lib.hid (on_new HO1.out ho)); clear ho))
        go_ret
        exact ⟨rfl, HO1.out⟩

set_option maxRecDepth 100000 in
set_option maxHeartbeats 12800000 in
theorem pright_main (w : World) (hG : Gens w) (g ph t x r p l : Int) (A : Option Addr) (n c : Nat) (RA : Option Addr) (rn rc : Nat) (ws : List Wt) (k : Int) (h : Wts w (.slice RA rn rc) ws) (hsum : ∀ y ∈ ws, y.2.length ≤ 140737488355328) (hI : ∀ y ∈ ws, I64v y.1) (kk : Nat) (hk : k = kk) (hlt : kk < rn) (hf : fewP ws p n = true) : Calls Tryd.prog 4 #[.slice RA rn rc, .agg #[.int .i64 g, .int .i64 ph, .int .i64 t, .int .i64 x, .int .i64 r, .int .i64 p, .int .i64 l, .slice A n c], .int .i64 k] w (Told w (.bool true)) := by
  obtain ⟨w1, hw1⟩ : ∃ W0, W0 = w.alloc (.cells #[.int .i64 g, .int .i64 ph, .int .i64 t, .int .i64 x, .int .i64 r, .int .i64 p, .int .i64 l, .slice A n c] 25) := ⟨_, rfl⟩
  have HO1 : Hid (Only (w.heap.size ≤ ·) w w1) := Lib.hid (by rw [hw1]; exact (Only.refl _ w).alloc (fun _ h => h) _)
  have HA : Hid (Blk w1 w.heap.size 25 [.int .i64 g, .int .i64 ph, .int .i64 t, .int .i64 x, .int .i64 r, .int .i64 p, .int .i64 l, .slice A n c]) := Lib.hid (by rw [hw1]; exact Blk.new w 25 _)
  have HFW := Lib.hid (Pgfew_w w1 g ph t x r p l A n c RA rn rc ws (Rw.later h HO1.out) hsum)
  have HAL : Hid (∀ W, Only (w.heap.size ≤ ·) w W → Calls Tryd.prog 9 #[] W (Told W (.bool true))) := Lib.hid fun W hW => Pgalive_c W (hG.later hW)
  obtain ⟨i0, i1, i2, i3, i4, i5, i6, i7⟩ := HA.out.eight
  have HW := Lib.hid h
  have HG := Lib.hid hG
  subst hk
  rw [hf] at HFW
  have HFF := Lib.hid (few_facts hf)
  have HLN := Lib.hid h.len
  have HI := Lib.hid hI
  have hb : ((rn : Int) == 0) = false := by rw [beq_eq_false_iff_ne]; omega
  have h2 : ¬ (kk : Int) < 0 := by omega
  have h3 : ¬ (rn : Int) ≤ (kk : Int) := by omega
  have hrn : rn ≤ 12 := by have h4 := HLN.out; have h5 := HFF.out.1; omega
  clear h hsum hG hf hI
  go_enter Tryd.func4, Tryd.ntmps4
  go_upto_region 1 with (fail)
  rw [← hw1]
  clear hw1
  go_upto_region 3 with (go_at_call 7; (with_reducible refine HFW.out.mono ?_); rintro e w2 ⟨rfl, ho⟩; (replace HA := Lib.hid (HA.out.only ho (Nat.not_le.2 HA.out.lt))); (replace HO1 := Lib.hid (on_new HO1.out ho)); clear ho)
  clear i0 i1 i2 i3 i4 i5 i6 i7 HFW
  go_upto_region 4 with (go_at_call 13; (with_reducible refine (of_w _ RA rn rc ws (Rw.later HW.out HO1.out) (by omega)).mono ?_); rintro e w3 ⟨R, tt, C, rfl, hden, hown, ho⟩; have HDN := Lib.hid hden; have HOW := Lib.hid hown; have HO3 := Lib.hid ho; clear hden hown ho)
  obtain ⟨gx, tx, hv, hgx⟩ := own_form HOW.out (by omega)
  simp only [Value.slice.injEq, true_and] at hv
  obtain ⟨rfl, rfl⟩ := hv
  have HA3 := Lib.hid (HA.out.only HO3.out (Nat.not_le.2 HA.out.lt))
  have HOA := Lib.hid (on_new HO1.out HO3.out)
  obtain ⟨_, _, hcl, hcx⟩ := own_src HOW.out
  have HC3 : Hid (∀ j u, C[j]? = some u → w3.cell? ⟨gx, j, none⟩ = some u) := Lib.hid (fun j u hu => by have h4 := hcx _ rfl j u hu; rwa [Addr.add_lit, Nat.zero_add] at h4)
  have HTP : Hid (rn ≤ tt) := Lib.hid (by obtain ⟨_, _, e4, _, _, h5, _⟩ := raw_of_own HOW.out; cases e4; exact h5)
  have HXD : Hid (Only (w3.heap.size ≤ ·) w3 w3.drew) := Lib.hid ((Only.refl _ w3).drew)
  have HCX : Hid ((∀ j u, (C.drop (kk * 2))[j]? = some u → w3.drew.cell? ((⟨gx, kk * 2, none⟩ : Addr).add j) = some u) ∧ ∀ j u, (C.take (kk * 2))[j]? = some u → w3.drew.cell? ((⟨gx, 0, none⟩ : Addr).add j) = some u) := Lib.hid (by
    refine ⟨fun j u hu => ?_, fun j u hu => ?_⟩
    · rw [List.getElem?_drop] at hu
      rw [Addr.add_lit]
      exact cell_later (HC3.out _ u hu) HXD.out
    · rw [List.getElem?_take] at hu
      split at hu
      · rw [Addr.add_lit, Nat.zero_add]
        exact cell_later (HC3.out _ u hu) HXD.out
      · cases hu)
  have HCL : Hid ((C.drop (kk * 2)).length = (rn - kk) * 2 ∧ (C.take (kk * 2)).length = kk * 2) := Lib.hid (by
    rw [List.length_drop, List.length_take, hcl]
    omega)
  have HC1 : Hid ((∀ u ∈ C.drop (kk * 2), u.oneCell' = true) ∧ ∀ u ∈ C.take (kk * 2), u.oneCell' = true) := Lib.hid (by
    have h4 := Den.one (fun _ _ => wrE.one) (HDN.out w3 HO3.out)
    exact ⟨fun u hu => h4 u (List.mem_of_mem_drop hu), fun u hu => h4 u (List.mem_of_mem_take hu)⟩)
  have htp : (rn : Int) ≤ (tt : Int) := by have h4 := HTP.out; omega
  have hk1 : (kk : Int) ≤ (rn : Int) := by omega
  have hk2 : (kk : Int) ≤ (tt : Int) := by omega
  have hk3 : (0 : Int) ≤ (kk : Int) := by omega
  have hk4 : kk ≤ tt := by have h4 := HTP.out; omega
  have hkt : ¬ tt = kk := by have h4 := HTP.out; omega
  clear hcl hcx
  go_upto_region 4 with (fail)
  refine wp_region_list (B := [false, false, false, false, false, false, false, false, false, false]) (S := (fun _ : World => True)) (by kernel_rfl) (by kernel_rfl) (by kernel_rfl) trivial (fun hsel hHeld => ?_)
  generalize hwz : World.drew _ = wd at HCX HXD hHeld ⊢
  clear hwz
  refine oneA 1 33 hsel (h := ?_)
  simp only [Act.put, List.setIfInBounds_toArray, List.set_cons_zero, List.set_cons_succ]
  refine oneA 2 34 hsel (h := ?_)
  simp only [Act.put, List.setIfInBounds_toArray, List.set_cons_zero, List.set_cons_succ]
  refine oneA 3 35 hsel (h := ?_)
  simp only [Act.put, List.setIfInBounds_toArray, List.set_cons_zero, List.set_cons_succ]
  refine oneA 5 37 hsel (h := ?_)
  simp only [Act.put, List.setIfInBounds_toArray, List.set_cons_zero, List.set_cons_succ]
  refine oneA 6 38 hsel (h := ?_)
  simp only [Act.put, List.setIfInBounds_toArray, List.set_cons_zero, List.set_cons_succ]
  refine oneA 7 39 hsel (h := ?_)
  simp only [Act.put, List.setIfInBounds_toArray, List.set_cons_zero, List.set_cons_succ]
  refine wpAnyL_ready (rs := [0]) (by kernel_rfl) (by kernel_rfl) (by simp) ?_
  refine AllReadyL.cons (o := ?_) ?_ (fun K hK => ?_) AllReadyL.nil
  case refine_2 => (simp only [List.getElem?_cons_zero]; rfl)
  go_simp
  have HXB : Hid (Only (wd.heap.size ≤ ·) wd (wd.alloc (.cells #[] 41))) := Lib.hid ((Only.refl _ wd).alloc (fun _ h => h) _)
  have HR0 := Lib.hid (own_none wd 41 2)
  clear hHeld
  refine hK.out _ _ trivial (fun hHeld => ?_)
  clear hK K
  try simp only [Act.put, List.setIfInBounds_toArray, List.set_cons_zero, List.set_cons_succ]
  generalize hwz : wd.alloc (.cells #[] 41) = w4 at HXB HR0 hHeld ⊢
  clear hwz
  refine wpAnyL_ready (rs := [4]) (by kernel_rfl) (by kernel_rfl) (by simp) ?_
  refine AllReadyL.cons (o := ?_) ?_ (fun K hK => ?_) AllReadyL.nil
  case refine_2 => (simp only [List.getElem?_cons_succ, List.getElem?_cons_zero]; rfl)
  rw [if_pos (by kernel_rfl)]
  refine wp_append_w (.tmp 32) (.tmp 35) rfl wd.heap.size wd.heap.size 0 0 [] rfl HR0.out (some ⟨gx, kk * 2, none⟩) (rn - kk) (tt - kk) (C.drop (kk * 2)) rfl (fun e => by cases e) HCL.out.1 (fun ad e j u hu => by cases e; exact cell_later (HCX.out.1 j u hu) HXB.out) HC1.out.1 (by omega) (by omega) HXB.out.size (fun g5 t5 w5 hr hgn hbg ho => ?_)
  rw [Nat.zero_add, List.nil_append] at hr
  rw [Nat.zero_add]
  have HR5 := Lib.hid hr
  have HX5 : Hid (Only (wd.heap.size ≤ ·) wd w5) := Lib.hid (HXB.out.trans (ho.mono fun j hj => hj.elim (fun e => by rw [e]; exact hbg) (fun h => Nat.le_trans HXB.out.size h)))
  clear hr ho hgn hbg
  clear hHeld
  refine hK.out _ _ trivial (fun hHeld => ?_)
  clear hK K
  try simp only [Act.put, List.setIfInBounds_toArray, List.set_cons_zero, List.set_cons_succ]
  refine wpAnyL_ready (rs := [8]) (by kernel_rfl) (by kernel_rfl) (by simp) ?_
  refine AllReadyL.cons (o := ?_) ?_ (fun K hK => ?_) AllReadyL.nil
  case refine_2 => (simp only [List.getElem?_cons_succ, List.getElem?_cons_zero]; rfl)
  rw [if_pos (by kernel_rfl)]
  refine wp_append_w (.tmp 36) (.tmp 39) rfl wd.heap.size g5 (rn - kk) t5 (C.drop (kk * 2)) rfl HR5.out (some ⟨gx, 0, none⟩) kk tt (C.take (kk * 2)) rfl (fun e => by cases e) HCL.out.2 (fun ad e j u hu => by cases e; exact cell_later (HCX.out.2 j u hu) HX5.out) HC1.out.2 (by omega) (by omega) HX5.out.size (fun g6 t6 w6 hr hgn hbg ho => ?_)
  have HR6 := Lib.hid hr
  have HX6 : Hid (Only (wd.heap.size ≤ ·) wd w6) := Lib.hid (HX5.out.trans (ho.mono fun j hj => hj.elim (fun e => by rw [e]; exact hbg) (fun h => Nat.le_trans HX5.out.size h)))
  clear hr ho hgn hbg
  clear hHeld
  refine hK.out _ _ trivial (fun hHeld => ?_)
  clear hK K
  try simp only [Act.put, List.setIfInBounds_toArray, List.set_cons_zero, List.set_cons_succ]
  refine oneA 9 8 hsel (h := ?_)
  simp only [Act.put, List.setIfInBounds_toArray, List.set_cons_zero, List.set_cons_succ]
  refine wpAnyL_done (by kernel_rfl) (by kernel_rfl) ?_ _
  clear hsel hHeld
  go_wp2_with (fail)
  have hsm : rn - kk + kk = rn := by omega
  rw [hsm] at HR6 ⊢
  clear hsm
  have HO6 : Hid (Only (w3.heap.size ≤ ·) w3 w6) := Lib.hid (on_new HXD.out HX6.out)
  have HT6 : Hid (Wts w6 (.slice (some ⟨g6, 0, none⟩) rn t6) (ws.drop kk ++ ws.take kk)) := Lib.hid (wts_own HR6.out (Den.append (Den.drop (fun _ _ => wrE.len) kk (HDN.out _ (on_new HO3.out HO6.out))) (Den.take (fun _ _ => wrE.len) kk (HDN.out _ (on_new HO3.out HO6.out)))) (by rw [List.length_append, List.length_drop, List.length_take, ← HLN.out]; omega))
  have HCX6 : Hid (∀ W, Only (w6.heap.size ≤ ·) w6 W → ∀ j u, C[j]? = some u → W.cell? ⟨gx, j, none⟩ = some u) := Lib.hid (fun W hW j u hu => cell_later (HC3.out j u hu) (on_new HO6.out hW))
  have HDN6 : Hid (∀ W, Only (w6.heap.size ≤ ·) w6 W → Den (wrE.At W) ws C) := Lib.hid (fun W hW => HDN.out W (on_new HO3.out (on_new HO6.out hW)))
  have HCLX : Hid (C.length = rn * 2) := Lib.hid (own_src HOW.out).2.2.1
  have HC1X : Hid (∀ u ∈ C, u.oneCell' = true) := Lib.hid (Den.one (fun _ _ => wrE.one) (HDN.out w3 HO3.out))
  have HOW6 : Hid (Only (w.heap.size ≤ ·) w w6) := Lib.hid (on_new HOA.out HO6.out)
  have HA6 := Lib.hid (HA3.out.only HO6.out (Nat.not_le.2 HA3.out.lt))
  clear HR6 HX6 HX5 HR5 HR0 HXB HXD HC1 HCL HCX HTP HDN HOW HO3 HC3 HA3 HO6 HOA HA htp hk2 hk4 hkt
  obtain ⟨b, off, y, P, cp, rfl, hy, hc0, _⟩ := wts_get (Rw.later HW.out HOW6.out) hlt
  obtain ⟨y1, hy1⟩ : ∃ z, z = y.1 := ⟨_, rfl⟩
  rw [← hy1] at hc0
  have HY := Lib.hid (And.intro hy hy1)
  have KP : Hid (∀ W : World, Only (w6.heap.size ≤ ·) w6 W → (fun W : World => W.cell? ⟨b, off + kk * 2, none⟩ = some (.int .i64 y1)) W) := Lib.hid (fun W hW => cell_later hc0 hW)
  clear hy hy1 hc0
  obtain ⟨Z, hZ⟩ : ∃ Z, Z = List.replicate 256 z8 := ⟨_, rfl⟩
  have hmk : ∀ W : World, (Instr.makeSlice 23 (.int .i64 256) (.int .i64 256)).run Tryd.prog W = .ok (.slice (some ⟨W.heap.size, 0, none⟩) 256 256) (W.alloc (.cells Z.toArray 5)) := fun W => by
    rw [hZ]
    exact run_make8 256 (by omega) W
  have HZZ : Hid (∀ (b : Nat) (W : World), Blk W b 5 Z → Src W (.slice (some ⟨b, 0, none⟩) 256 256) z256) := Lib.hid (fun b W hW => by
    rw [hZ, show List.replicate 256 z8 = cb z256 by simp [cb, z256, z8]] at hW
    have h1 := Txt.blk (A := some ⟨b, 0, none⟩) (rest := []) (by rw [List.append_nil]; exact hW) 0 256 (by simp [z256]) (fun _ => rfl)
    exact ⟨some ⟨b, 0, none⟩, 256, rfl, h1, (fun e => by cases e), by decide, by decide⟩)
  have HZS : Hid (∀ {b : Nat} (W : World), Src W (.slice (some ⟨b, 0, none⟩) 256 256) z256 → Src W (.slice (some ⟨b, 0, none⟩) z256.length 256) z256) := Lib.hid (fun W h => by rw [z256_len]; exact h)
  clear hZ
  go_cut [9] from 41 to 52 (fun y9 wz => ∃ g9 t9 : Nat, y9 = .slice (some ⟨g9, 0, none⟩) (rn + 1) t9 ∧ Hid (Only (w6.heap.size ≤ ·) w6 wz) ∧ Hid (Wts wz (.slice (some ⟨g9, 0, none⟩) (rn + 1) t9) (ws ++ [(y1, z256)])))
  case first =>
    have HW0 : Hid (Only (w6.heap.size ≤ ·) w6 w6.drew) := Lib.hid ((Only.refl _ w6).drew)
    have HSX := Lib.hid (KP.out _ HW0.out)
    go_upto_region 5 with (fail)
    refine wp_region_list (B := [false, false, false, false, false, false, false, false, false, false, false, false, false]) (S := (fun W : World => W.cell? ⟨b, off + kk * 2, none⟩ = some (.int .i64 y1))) (by kernel_rfl) (by kernel_rfl) (by kernel_rfl) HSX.out (fun hsel hHeld => ?_)
    generalize hwz : World.drew _ = wy0 at HW0 HSX hHeld ⊢
    clear hwz
    refine oneA 1 42 hsel (h := ?_)
    simp only [Act.put, List.setIfInBounds_toArray, List.set_cons_zero, List.set_cons_succ]
    refine oneA 3 44 hsel (h := ?_)
    simp only [Act.put, List.setIfInBounds_toArray, List.set_cons_zero, List.set_cons_succ]
    refine oneA 4 45 hsel (h := ?_)
    simp only [Act.put, List.setIfInBounds_toArray, List.set_cons_zero, List.set_cons_succ]
    refine oneA 5 46 hsel (h := ?_)
    simp only [Act.put, List.setIfInBounds_toArray, List.set_cons_zero, List.set_cons_succ]
    refine oneA 6 47 hsel (h := ?_)
    simp only [Act.put, List.setIfInBounds_toArray, List.set_cons_zero, List.set_cons_succ]
    refine oneA 7 48 hsel (h := ?_)
    simp only [Act.put, List.setIfInBounds_toArray, List.set_cons_zero, List.set_cons_succ]
    refine wpAnyL_ready (rs := [0, 8]) (by kernel_rfl) (by kernel_rfl) (by simp) ?_
    refine AllReadyL.cons (o := ?_) ?_ (fun K hK => ?_) (AllReadyL.cons (o := ?_) ?_ (fun K hK => ?_) AllReadyL.nil)
    case refine_2 => (simp only [List.getElem?_cons_zero]; rfl)
    case refine_5 => (simp only [List.getElem?_cons_succ, List.getElem?_cons_zero]; rfl)
    case refine_3 =>
      go_simp
      have HW1 : Hid (Only (w6.heap.size ≤ ·) w6 (wy0.alloc (.cells #[] 41))) := Lib.hid (HW0.out.alloc (fun _ h => h) _)
      have HR0 := Lib.hid (own_le (own_none wy0 41 2) HW0.out.size)
      clear hHeld
      refine hK.out _ _ (KP.out _ HW1.out) (fun hHeld => ?_)
      clear hK K
      try simp only [Act.put, List.setIfInBounds_toArray, List.set_cons_zero, List.set_cons_succ]
      generalize hwz : (wy0.alloc (.cells #[] 41)) = wy1 at HW1 HR0 hHeld ⊢
      clear hwz
      generalize hgz : wy0.heap.size = g0 at HR0 ⊢
      clear hgz
      refine wpAnyL_ready (rs := [2, 8]) (by kernel_rfl) (by kernel_rfl) (by simp) ?_
      refine AllReadyL.cons (o := ?_) ?_ (fun K hK => ?_) (AllReadyL.cons (o := ?_) ?_ (fun K hK => ?_) AllReadyL.nil)
      case refine_2 => (simp only [List.getElem?_cons_succ, List.getElem?_cons_zero]; rfl)
      case refine_5 => (simp only [List.getElem?_cons_succ, List.getElem?_cons_zero]; rfl)
      case refine_3 =>
        rw [if_pos (by kernel_rfl)]
        refine wp_append_w (.tmp 41) (.tmp 42) rfl w6.heap.size g0 0 0 [] rfl HR0.out (some ⟨gx, 0, none⟩) rn tt C rfl (fun e => by cases e) HCLX.out (fun ad e j u hu => by cases e; rw [Addr.add_lit, Nat.zero_add]; exact HCX6.out _ HW1.out j u hu) HC1X.out (by omega) (by omega) HW1.out.size (fun g2 t2 wy2 hr hgn hbg ho => ?_)
        rw [Nat.zero_add, List.nil_append] at hr
        rw [Nat.zero_add]
        have HR2 := Lib.hid hr
        have HW2 : Hid (Only (w6.heap.size ≤ ·) w6 wy2) := Lib.hid (HW1.out.trans (ho.mono fun j hj => hj.elim (fun e => by rw [e]; exact hbg) (fun h => Nat.le_trans HW1.out.size h)))
        clear hr ho hgn hbg
        clear hHeld
        refine hK.out _ _ (KP.out _ HW2.out) (fun hHeld => ?_)
        clear hK K
        try simp only [Act.put, List.setIfInBounds_toArray, List.set_cons_zero, List.set_cons_succ]
        refine wpAnyL_ready (rs := [8]) (by kernel_rfl) (by kernel_rfl) (by simp) ?_
        refine AllReadyL.cons (o := ?_) ?_ (fun K hK => ?_) AllReadyL.nil
        case refine_2 => (simp only [List.getElem?_cons_succ, List.getElem?_cons_zero]; rfl)
        go_simp
        have HW3 : Hid (Only (w6.heap.size ≤ ·) w6 (wy2.alloc (.cells Z.toArray 5))) := Lib.hid (HW2.out.alloc (fun _ h => h) _)
        have HZ : Hid (Stab (fun k : Nat => k = g2) (wy2.alloc (.cells Z.toArray 5)) (fun W => Src W (.slice (some ⟨wy2.heap.size, 0, none⟩) 256 256) z256)) := Lib.hid ((blk_stab (D := (fun k : Nat => k = g2)) (Blk.new wy2 5 Z) (fun e => by have h9 : g2 < wy2.heap.size := (World.ownsRow.lt HR2.out g2 rfl).2; omega)).imp (HZZ.out wy2.heap.size))
        replace HR2 := Lib.hid (own_later HR2.out ((Only.refl (· ≥ wy2.heap.size) wy2).alloc (fun _ h => h) _) : (wy2.alloc (.cells Z.toArray 5)).ownsRow w6.heap.size 41 2 (.slice (some ⟨g2, 0, none⟩) rn t2) rn C)
        clear hHeld
        refine hK.out _ _ (KP.out _ HW3.out) (fun hHeld => ?_)
        clear hK K
        try simp only [Act.put, List.setIfInBounds_toArray, List.set_cons_zero, List.set_cons_succ]
        generalize hwz : (wy2.alloc (.cells Z.toArray 5)) = wy3 at HW3 HR2 HZ hHeld ⊢
        clear hwz
        generalize hgz : wy2.heap.size = zb at HZ ⊢
        clear hgz
        refine oneA 9 50 hsel (h := ?_)
        simp only [Act.put, List.setIfInBounds_toArray, List.set_cons_zero, List.set_cons_succ]
        refine wpAnyL_ready (rs := [10]) (by kernel_rfl) (by kernel_rfl) (by simp) ?_
        refine AllReadyL.cons (o := ?_) ?_ (fun K hK => ?_) AllReadyL.nil
        case refine_2 => (simp only [List.getElem?_cons_succ, List.getElem?_cons_zero]; rfl)
        go_simp
        have HW4 : Hid (Only (w6.heap.size ≤ ·) w6 (wy3.alloc (.cells #[.int .i64 y1, .slice (some ⟨zb, 0, none⟩) 256 256] 41))) := Lib.hid (HW3.out.alloc (fun _ h => h) _)
        have HB1 : Hid (Stab (fun k : Nat => k = g2) (wy3.alloc (.cells #[.int .i64 y1, .slice (some ⟨zb, 0, none⟩) 256 256] 41)) (fun W => Blk W wy3.heap.size 41 [.int .i64 y1, .slice (some ⟨zb, 0, none⟩) 256 256])) := Lib.hid (blk_stab (D := (fun k : Nat => k = g2)) (Blk.new wy3 41 [.int .i64 y1, .slice (some ⟨zb, 0, none⟩) 256 256]) (fun e => by have h9 : g2 < wy3.heap.size := (World.ownsRow.lt HR2.out g2 rfl).2; omega))
        replace HZ : Hid (Stab (fun k : Nat => k = g2) (wy3.alloc (.cells #[.int .i64 y1, .slice (some ⟨zb, 0, none⟩) 256 256] 41)) (fun W => Src W (.slice (some ⟨zb, 0, none⟩) 256 256) z256)) := Lib.hid (HZ.out.step ((Only.refl _ wy3).alloc (fun _ h => .inr h) _) (fun _ hk => .inl hk))
        replace HR2 := Lib.hid (own_later HR2.out ((Only.refl (· ≥ wy3.heap.size) wy3).alloc (fun _ h => h) _) : (wy3.alloc (.cells #[.int .i64 y1, .slice (some ⟨zb, 0, none⟩) 256 256] 41)).ownsRow w6.heap.size 41 2 (.slice (some ⟨g2, 0, none⟩) rn t2) rn C)
        clear hHeld
        refine hK.out _ _ (KP.out _ HW4.out) (fun hHeld => ?_)
        clear hK K
        try simp only [Act.put, List.setIfInBounds_toArray, List.set_cons_zero, List.set_cons_succ]
        generalize hwz : (wy3.alloc (.cells #[.int .i64 y1, .slice (some ⟨zb, 0, none⟩) 256 256] 41)) = wy4 at HW4 HZ HR2 HB1 hHeld ⊢
        clear hwz
        generalize hgz : wy3.heap.size = r1 at HB1 ⊢
        clear hgz
        refine wpAnyL_ready (rs := [11]) (by kernel_rfl) (by kernel_rfl) (by simp) ?_
        refine AllReadyL.cons (o := ?_) ?_ (fun K hK => ?_) AllReadyL.nil
        case refine_2 => (simp only [List.getElem?_cons_succ, List.getElem?_cons_zero]; rfl)
        rw [if_pos (by kernel_rfl)]
        refine wp_append_w (.tmp 43) (.tmp 51) rfl w6.heap.size g2 rn t2 C rfl HR2.out (some ⟨r1, 0, none⟩) 1 1 [.int .i64 y1, .slice (some ⟨zb, 0, none⟩) 256 256] rfl (fun e => by cases e) rfl (fun ad e j u hu => by cases e; rw [Addr.add_lit, Nat.zero_add, HB1.out.now.cell]; exact hu) (by simp [Value.oneCell']) (by omega) (by omega) HW4.out.size (fun g9 t9 wy5 hr hgn hbg ho => ?_)
        have HR9 := Lib.hid hr
        have HW5 : Hid (Only (w6.heap.size ≤ ·) w6 wy5) := Lib.hid (HW4.out.trans (ho.mono fun j hj => hj.elim (fun e => by rw [e]; exact hbg) (fun h => Nat.le_trans HW4.out.size h)))
        replace HZ : Hid (Stab (fun k : Nat => k = g9) wy5 (fun W => Src W (.slice (some ⟨zb, 0, none⟩) 256 256) z256)) := Lib.hid (HZ.out.step ho (fun k hk => by rw [hk]; exact hgn))
        clear hr ho hgn hbg
        clear hHeld
        refine hK.out _ _ (KP.out _ HW5.out) (fun hHeld => ?_)
        clear hK K
        try simp only [Act.put, List.setIfInBounds_toArray, List.set_cons_zero, List.set_cons_succ]
        refine oneA 12 9 hsel (h := ?_)
        simp only [Act.put, List.setIfInBounds_toArray, List.set_cons_zero, List.set_cons_succ]
        refine wpAnyL_done (by kernel_rfl) (by kernel_rfl) ?_ _
        clear hsel hHeld
        go_wp2_with (fail)
        refine Met.intro ?_
        go_step
        (repeat apply Exists.intro)
        refine ⟨?rel0281011, rfl⟩
        exact ⟨g9, t9, rfl, HW5, Lib.hid (wts_own HR9.out (Den.append (HDN6.out _ HW5.out) (Den.single ⟨some ⟨zb, 0, none⟩, 256, by rw [z256_len], HZS.out _ HZ.out.now⟩)) (by rw [List.length_append, List.length_singleton, ← HLN.out]))⟩
      case refine_6 =>
        go_simp
        have HW2 : Hid (Only (w6.heap.size ≤ ·) w6 (wy1.alloc (.cells Z.toArray 5))) := Lib.hid (HW1.out.alloc (fun _ h => h) _)
        have HZ : Hid (Stab (fun k : Nat => k = g0) (wy1.alloc (.cells Z.toArray 5)) (fun W => Src W (.slice (some ⟨wy1.heap.size, 0, none⟩) 256 256) z256)) := Lib.hid ((blk_stab (D := (fun k : Nat => k = g0)) (Blk.new wy1 5 Z) (fun e => by have h9 : g0 < wy1.heap.size := (World.ownsRow.lt HR0.out g0 rfl).2; omega)).imp (HZZ.out wy1.heap.size))
        replace HR0 := Lib.hid (own_later HR0.out ((Only.refl (· ≥ wy1.heap.size) wy1).alloc (fun _ h => h) _) : (wy1.alloc (.cells Z.toArray 5)).ownsRow w6.heap.size 41 2 (.slice (some ⟨g0, 0, none⟩) 0 0) 0 [])
        clear hHeld
        refine hK.out _ _ (KP.out _ HW2.out) (fun hHeld => ?_)
        clear hK K
        try simp only [Act.put, List.setIfInBounds_toArray, List.set_cons_zero, List.set_cons_succ]
        generalize hwz : (wy1.alloc (.cells Z.toArray 5)) = wy2 at HW2 HR0 HZ hHeld ⊢
        clear hwz
        generalize hgz : wy1.heap.size = zb at HZ ⊢
        clear hgz
        refine oneA 9 50 hsel (h := ?_)
        simp only [Act.put, List.setIfInBounds_toArray, List.set_cons_zero, List.set_cons_succ]
        refine wpAnyL_ready (rs := [2, 10]) (by kernel_rfl) (by kernel_rfl) (by simp) ?_
        refine AllReadyL.cons (o := ?_) ?_ (fun K hK => ?_) (AllReadyL.cons (o := ?_) ?_ (fun K hK => ?_) AllReadyL.nil)
        case refine_2 => (simp only [List.getElem?_cons_succ, List.getElem?_cons_zero]; rfl)
        case refine_5 => (simp only [List.getElem?_cons_succ, List.getElem?_cons_zero]; rfl)
        case refine_3 =>
          rw [if_pos (by kernel_rfl)]
          refine wp_append_w (.tmp 41) (.tmp 42) rfl w6.heap.size g0 0 0 [] rfl HR0.out (some ⟨gx, 0, none⟩) rn tt C rfl (fun e => by cases e) HCLX.out (fun ad e j u hu => by cases e; rw [Addr.add_lit, Nat.zero_add]; exact HCX6.out _ HW2.out j u hu) HC1X.out (by omega) (by omega) HW2.out.size (fun g2 t2 wy3 hr hgn hbg ho => ?_)
          rw [Nat.zero_add, List.nil_append] at hr
          rw [Nat.zero_add]
          have HR2 := Lib.hid hr
          have HW3 : Hid (Only (w6.heap.size ≤ ·) w6 wy3) := Lib.hid (HW2.out.trans (ho.mono fun j hj => hj.elim (fun e => by rw [e]; exact hbg) (fun h => Nat.le_trans HW2.out.size h)))
          replace HZ : Hid (Stab (fun k : Nat => k = g2) wy3 (fun W => Src W (.slice (some ⟨zb, 0, none⟩) 256 256) z256)) := Lib.hid (HZ.out.step ho (fun k hk => by rw [hk]; exact hgn))
          clear hr ho hgn hbg
          clear hHeld
          refine hK.out _ _ (KP.out _ HW3.out) (fun hHeld => ?_)
          clear hK K
          try simp only [Act.put, List.setIfInBounds_toArray, List.set_cons_zero, List.set_cons_succ]
          refine wpAnyL_ready (rs := [10]) (by kernel_rfl) (by kernel_rfl) (by simp) ?_
          refine AllReadyL.cons (o := ?_) ?_ (fun K hK => ?_) AllReadyL.nil
          case refine_2 => (simp only [List.getElem?_cons_succ, List.getElem?_cons_zero]; rfl)
          go_simp
          have HW4 : Hid (Only (w6.heap.size ≤ ·) w6 (wy3.alloc (.cells #[.int .i64 y1, .slice (some ⟨zb, 0, none⟩) 256 256] 41))) := Lib.hid (HW3.out.alloc (fun _ h => h) _)
          have HB1 : Hid (Stab (fun k : Nat => k = g2) (wy3.alloc (.cells #[.int .i64 y1, .slice (some ⟨zb, 0, none⟩) 256 256] 41)) (fun W => Blk W wy3.heap.size 41 [.int .i64 y1, .slice (some ⟨zb, 0, none⟩) 256 256])) := Lib.hid (blk_stab (D := (fun k : Nat => k = g2)) (Blk.new wy3 41 [.int .i64 y1, .slice (some ⟨zb, 0, none⟩) 256 256]) (fun e => by have h9 : g2 < wy3.heap.size := (World.ownsRow.lt HR2.out g2 rfl).2; omega))
          replace HZ : Hid (Stab (fun k : Nat => k = g2) (wy3.alloc (.cells #[.int .i64 y1, .slice (some ⟨zb, 0, none⟩) 256 256] 41)) (fun W => Src W (.slice (some ⟨zb, 0, none⟩) 256 256) z256)) := Lib.hid (HZ.out.step ((Only.refl _ wy3).alloc (fun _ h => .inr h) _) (fun _ hk => .inl hk))
          replace HR2 := Lib.hid (own_later HR2.out ((Only.refl (· ≥ wy3.heap.size) wy3).alloc (fun _ h => h) _) : (wy3.alloc (.cells #[.int .i64 y1, .slice (some ⟨zb, 0, none⟩) 256 256] 41)).ownsRow w6.heap.size 41 2 (.slice (some ⟨g2, 0, none⟩) rn t2) rn C)
          clear hHeld
          refine hK.out _ _ (KP.out _ HW4.out) (fun hHeld => ?_)
          clear hK K
          try simp only [Act.put, List.setIfInBounds_toArray, List.set_cons_zero, List.set_cons_succ]
          generalize hwz : (wy3.alloc (.cells #[.int .i64 y1, .slice (some ⟨zb, 0, none⟩) 256 256] 41)) = wy4 at HW4 HZ HR2 HB1 hHeld ⊢
          clear hwz
          generalize hgz : wy3.heap.size = r1 at HB1 ⊢
          clear hgz
          refine wpAnyL_ready (rs := [11]) (by kernel_rfl) (by kernel_rfl) (by simp) ?_
          refine AllReadyL.cons (o := ?_) ?_ (fun K hK => ?_) AllReadyL.nil
          case refine_2 => (simp only [List.getElem?_cons_succ, List.getElem?_cons_zero]; rfl)
          rw [if_pos (by kernel_rfl)]
          refine wp_append_w (.tmp 43) (.tmp 51) rfl w6.heap.size g2 rn t2 C rfl HR2.out (some ⟨r1, 0, none⟩) 1 1 [.int .i64 y1, .slice (some ⟨zb, 0, none⟩) 256 256] rfl (fun e => by cases e) rfl (fun ad e j u hu => by cases e; rw [Addr.add_lit, Nat.zero_add, HB1.out.now.cell]; exact hu) (by simp [Value.oneCell']) (by omega) (by omega) HW4.out.size (fun g9 t9 wy5 hr hgn hbg ho => ?_)
          have HR9 := Lib.hid hr
          have HW5 : Hid (Only (w6.heap.size ≤ ·) w6 wy5) := Lib.hid (HW4.out.trans (ho.mono fun j hj => hj.elim (fun e => by rw [e]; exact hbg) (fun h => Nat.le_trans HW4.out.size h)))
          replace HZ : Hid (Stab (fun k : Nat => k = g9) wy5 (fun W => Src W (.slice (some ⟨zb, 0, none⟩) 256 256) z256)) := Lib.hid (HZ.out.step ho (fun k hk => by rw [hk]; exact hgn))
          clear hr ho hgn hbg
          clear hHeld
          refine hK.out _ _ (KP.out _ HW5.out) (fun hHeld => ?_)
          clear hK K
          try simp only [Act.put, List.setIfInBounds_toArray, List.set_cons_zero, List.set_cons_succ]
          refine oneA 12 9 hsel (h := ?_)
          simp only [Act.put, List.setIfInBounds_toArray, List.set_cons_zero, List.set_cons_succ]
          refine wpAnyL_done (by kernel_rfl) (by kernel_rfl) ?_ _
          clear hsel hHeld
          go_wp2_with (fail)
          refine Met.intro ?_
          go_step
          (repeat apply Exists.intro)
          refine ⟨?rel0821011, rfl⟩
          exact ⟨g9, t9, rfl, HW5, Lib.hid (wts_own HR9.out (Den.append (HDN6.out _ HW5.out) (Den.single ⟨some ⟨zb, 0, none⟩, 256, by rw [z256_len], HZS.out _ HZ.out.now⟩)) (by rw [List.length_append, List.length_singleton, ← HLN.out]))⟩
        case refine_6 =>
          go_simp
          have HW3 : Hid (Only (w6.heap.size ≤ ·) w6 (wy2.alloc (.cells #[.int .i64 y1, .slice (some ⟨zb, 0, none⟩) 256 256] 41))) := Lib.hid (HW2.out.alloc (fun _ h => h) _)
          have HB1 : Hid (Stab (fun k : Nat => k = g0) (wy2.alloc (.cells #[.int .i64 y1, .slice (some ⟨zb, 0, none⟩) 256 256] 41)) (fun W => Blk W wy2.heap.size 41 [.int .i64 y1, .slice (some ⟨zb, 0, none⟩) 256 256])) := Lib.hid (blk_stab (D := (fun k : Nat => k = g0)) (Blk.new wy2 41 [.int .i64 y1, .slice (some ⟨zb, 0, none⟩) 256 256]) (fun e => by have h9 : g0 < wy2.heap.size := (World.ownsRow.lt HR0.out g0 rfl).2; omega))
          replace HZ : Hid (Stab (fun k : Nat => k = g0) (wy2.alloc (.cells #[.int .i64 y1, .slice (some ⟨zb, 0, none⟩) 256 256] 41)) (fun W => Src W (.slice (some ⟨zb, 0, none⟩) 256 256) z256)) := Lib.hid (HZ.out.step ((Only.refl _ wy2).alloc (fun _ h => .inr h) _) (fun _ hk => .inl hk))
          replace HR0 := Lib.hid (own_later HR0.out ((Only.refl (· ≥ wy2.heap.size) wy2).alloc (fun _ h => h) _) : (wy2.alloc (.cells #[.int .i64 y1, .slice (some ⟨zb, 0, none⟩) 256 256] 41)).ownsRow w6.heap.size 41 2 (.slice (some ⟨g0, 0, none⟩) 0 0) 0 [])
          clear hHeld
          refine hK.out _ _ (KP.out _ HW3.out) (fun hHeld => ?_)
          clear hK K
          try simp only [Act.put, List.setIfInBounds_toArray, List.set_cons_zero, List.set_cons_succ]
          generalize hwz : (wy2.alloc (.cells #[.int .i64 y1, .slice (some ⟨zb, 0, none⟩) 256 256] 41)) = wy3 at HW3 HZ HR0 HB1 hHeld ⊢
          clear hwz
          generalize hgz : wy2.heap.size = r1 at HB1 ⊢
          clear hgz
          refine wpAnyL_ready (rs := [2]) (by kernel_rfl) (by kernel_rfl) (by simp) ?_
          refine AllReadyL.cons (o := ?_) ?_ (fun K hK => ?_) AllReadyL.nil
          case refine_2 => (simp only [List.getElem?_cons_succ, List.getElem?_cons_zero]; rfl)
          rw [if_pos (by kernel_rfl)]
          refine wp_append_w (.tmp 41) (.tmp 42) rfl w6.heap.size g0 0 0 [] rfl HR0.out (some ⟨gx, 0, none⟩) rn tt C rfl (fun e => by cases e) HCLX.out (fun ad e j u hu => by cases e; rw [Addr.add_lit, Nat.zero_add]; exact HCX6.out _ HW3.out j u hu) HC1X.out (by omega) (by omega) HW3.out.size (fun g2 t2 wy4 hr hgn hbg ho => ?_)
          rw [Nat.zero_add, List.nil_append] at hr
          rw [Nat.zero_add]
          have HR2 := Lib.hid hr
          have HW4 : Hid (Only (w6.heap.size ≤ ·) w6 wy4) := Lib.hid (HW3.out.trans (ho.mono fun j hj => hj.elim (fun e => by rw [e]; exact hbg) (fun h => Nat.le_trans HW3.out.size h)))
          replace HZ : Hid (Stab (fun k : Nat => k = g2) wy4 (fun W => Src W (.slice (some ⟨zb, 0, none⟩) 256 256) z256)) := Lib.hid (HZ.out.step ho (fun k hk => by rw [hk]; exact hgn))
          replace HB1 : Hid (Stab (fun k : Nat => k = g2) wy4 (fun W => Blk W r1 41 [.int .i64 y1, .slice (some ⟨zb, 0, none⟩) 256 256])) := Lib.hid (HB1.out.step ho (fun k hk => by rw [hk]; exact hgn))
          clear hr ho hgn hbg
          clear hHeld
          refine hK.out _ _ (KP.out _ HW4.out) (fun hHeld => ?_)
          clear hK K
          try simp only [Act.put, List.setIfInBounds_toArray, List.set_cons_zero, List.set_cons_succ]
          refine wpAnyL_ready (rs := [11]) (by kernel_rfl) (by kernel_rfl) (by simp) ?_
          refine AllReadyL.cons (o := ?_) ?_ (fun K hK => ?_) AllReadyL.nil
          case refine_2 => (simp only [List.getElem?_cons_succ, List.getElem?_cons_zero]; rfl)
          rw [if_pos (by kernel_rfl)]
          refine wp_append_w (.tmp 43) (.tmp 51) rfl w6.heap.size g2 rn t2 C rfl HR2.out (some ⟨r1, 0, none⟩) 1 1 [.int .i64 y1, .slice (some ⟨zb, 0, none⟩) 256 256] rfl (fun e => by cases e) rfl (fun ad e j u hu => by cases e; rw [Addr.add_lit, Nat.zero_add, HB1.out.now.cell]; exact hu) (by simp [Value.oneCell']) (by omega) (by omega) HW4.out.size (fun g9 t9 wy5 hr hgn hbg ho => ?_)
          have HR9 := Lib.hid hr
          have HW5 : Hid (Only (w6.heap.size ≤ ·) w6 wy5) := Lib.hid (HW4.out.trans (ho.mono fun j hj => hj.elim (fun e => by rw [e]; exact hbg) (fun h => Nat.le_trans HW4.out.size h)))
          replace HZ : Hid (Stab (fun k : Nat => k = g9) wy5 (fun W => Src W (.slice (some ⟨zb, 0, none⟩) 256 256) z256)) := Lib.hid (HZ.out.step ho (fun k hk => by rw [hk]; exact hgn))
          clear hr ho hgn hbg
          clear hHeld
          refine hK.out _ _ (KP.out _ HW5.out) (fun hHeld => ?_)
          clear hK K
          try simp only [Act.put, List.setIfInBounds_toArray, List.set_cons_zero, List.set_cons_succ]
          refine oneA 12 9 hsel (h := ?_)
          simp only [Act.put, List.setIfInBounds_toArray, List.set_cons_zero, List.set_cons_succ]
          refine wpAnyL_done (by kernel_rfl) (by kernel_rfl) ?_ _
          clear hsel hHeld
          go_wp2_with (fail)
          refine Met.intro ?_
          go_step
          (repeat apply Exists.intro)
          refine ⟨?rel0810211, rfl⟩
          exact ⟨g9, t9, rfl, HW5, Lib.hid (wts_own HR9.out (Den.append (HDN6.out _ HW5.out) (Den.single ⟨some ⟨zb, 0, none⟩, 256, by rw [z256_len], HZS.out _ HZ.out.now⟩)) (by rw [List.length_append, List.length_singleton, ← HLN.out]))⟩
    case refine_6 =>
      go_simp
      have HW1 : Hid (Only (w6.heap.size ≤ ·) w6 (wy0.alloc (.cells Z.toArray 5))) := Lib.hid (HW0.out.alloc (fun _ h => h) _)
      have HZ : Hid (Stab (fun _ : Nat => False) (wy0.alloc (.cells Z.toArray 5)) (fun W => Src W (.slice (some ⟨wy0.heap.size, 0, none⟩) 256 256) z256)) := Lib.hid ((blk_stab (D := (fun _ : Nat => False)) (Blk.new wy0 5 Z) (fun h => h)).imp (HZZ.out wy0.heap.size))
      clear hHeld
      refine hK.out _ _ (KP.out _ HW1.out) (fun hHeld => ?_)
      clear hK K
      try simp only [Act.put, List.setIfInBounds_toArray, List.set_cons_zero, List.set_cons_succ]
      generalize hwz : (wy0.alloc (.cells Z.toArray 5)) = wy1 at HW1 HZ hHeld ⊢
      clear hwz
      generalize hgz : wy0.heap.size = zb at HZ ⊢
      clear hgz
      refine oneA 9 50 hsel (h := ?_)
      simp only [Act.put, List.setIfInBounds_toArray, List.set_cons_zero, List.set_cons_succ]
      refine wpAnyL_ready (rs := [0, 10]) (by kernel_rfl) (by kernel_rfl) (by simp) ?_
      refine AllReadyL.cons (o := ?_) ?_ (fun K hK => ?_) (AllReadyL.cons (o := ?_) ?_ (fun K hK => ?_) AllReadyL.nil)
      case refine_2 => (simp only [List.getElem?_cons_zero]; rfl)
      case refine_5 => (simp only [List.getElem?_cons_succ, List.getElem?_cons_zero]; rfl)
      case refine_3 =>
        go_simp
        have HW2 : Hid (Only (w6.heap.size ≤ ·) w6 (wy1.alloc (.cells #[] 41))) := Lib.hid (HW1.out.alloc (fun _ h => h) _)
        have HR0 := Lib.hid (own_le (own_none wy1 41 2) HW1.out.size)
        replace HZ : Hid (Stab (fun k : Nat => k = wy1.heap.size) (wy1.alloc (.cells #[] 41)) (fun W => Src W (.slice (some ⟨zb, 0, none⟩) 256 256) z256)) := Lib.hid (HZ.out.step ((Only.refl _ wy1).alloc (fun _ h => .inr h) _) (fun k hk => .inr (Nat.le_of_eq hk.symm)))
        clear hHeld
        refine hK.out _ _ (KP.out _ HW2.out) (fun hHeld => ?_)
        clear hK K
        try simp only [Act.put, List.setIfInBounds_toArray, List.set_cons_zero, List.set_cons_succ]
        generalize hwz : (wy1.alloc (.cells #[] 41)) = wy2 at HW2 HZ HR0 hHeld ⊢
        clear hwz
        generalize hgz : wy1.heap.size = g0 at HR0 HZ ⊢
        clear hgz
        refine wpAnyL_ready (rs := [2, 10]) (by kernel_rfl) (by kernel_rfl) (by simp) ?_
        refine AllReadyL.cons (o := ?_) ?_ (fun K hK => ?_) (AllReadyL.cons (o := ?_) ?_ (fun K hK => ?_) AllReadyL.nil)
        case refine_2 => (simp only [List.getElem?_cons_succ, List.getElem?_cons_zero]; rfl)
        case refine_5 => (simp only [List.getElem?_cons_succ, List.getElem?_cons_zero]; rfl)
        case refine_3 =>
          rw [if_pos (by kernel_rfl)]
          refine wp_append_w (.tmp 41) (.tmp 42) rfl w6.heap.size g0 0 0 [] rfl HR0.out (some ⟨gx, 0, none⟩) rn tt C rfl (fun e => by cases e) HCLX.out (fun ad e j u hu => by cases e; rw [Addr.add_lit, Nat.zero_add]; exact HCX6.out _ HW2.out j u hu) HC1X.out (by omega) (by omega) HW2.out.size (fun g2 t2 wy3 hr hgn hbg ho => ?_)
          rw [Nat.zero_add, List.nil_append] at hr
          rw [Nat.zero_add]
          have HR2 := Lib.hid hr
          have HW3 : Hid (Only (w6.heap.size ≤ ·) w6 wy3) := Lib.hid (HW2.out.trans (ho.mono fun j hj => hj.elim (fun e => by rw [e]; exact hbg) (fun h => Nat.le_trans HW2.out.size h)))
          replace HZ : Hid (Stab (fun k : Nat => k = g2) wy3 (fun W => Src W (.slice (some ⟨zb, 0, none⟩) 256 256) z256)) := Lib.hid (HZ.out.step ho (fun k hk => by rw [hk]; exact hgn))
          clear hr ho hgn hbg
          clear hHeld
          refine hK.out _ _ (KP.out _ HW3.out) (fun hHeld => ?_)
          clear hK K
          try simp only [Act.put, List.setIfInBounds_toArray, List.set_cons_zero, List.set_cons_succ]
          refine wpAnyL_ready (rs := [10]) (by kernel_rfl) (by kernel_rfl) (by simp) ?_
          refine AllReadyL.cons (o := ?_) ?_ (fun K hK => ?_) AllReadyL.nil
          case refine_2 => (simp only [List.getElem?_cons_succ, List.getElem?_cons_zero]; rfl)
          go_simp
          have HW4 : Hid (Only (w6.heap.size ≤ ·) w6 (wy3.alloc (.cells #[.int .i64 y1, .slice (some ⟨zb, 0, none⟩) 256 256] 41))) := Lib.hid (HW3.out.alloc (fun _ h => h) _)
          have HB1 : Hid (Stab (fun k : Nat => k = g2) (wy3.alloc (.cells #[.int .i64 y1, .slice (some ⟨zb, 0, none⟩) 256 256] 41)) (fun W => Blk W wy3.heap.size 41 [.int .i64 y1, .slice (some ⟨zb, 0, none⟩) 256 256])) := Lib.hid (blk_stab (D := (fun k : Nat => k = g2)) (Blk.new wy3 41 [.int .i64 y1, .slice (some ⟨zb, 0, none⟩) 256 256]) (fun e => by have h9 : g2 < wy3.heap.size := (World.ownsRow.lt HR2.out g2 rfl).2; omega))
          replace HZ : Hid (Stab (fun k : Nat => k = g2) (wy3.alloc (.cells #[.int .i64 y1, .slice (some ⟨zb, 0, none⟩) 256 256] 41)) (fun W => Src W (.slice (some ⟨zb, 0, none⟩) 256 256) z256)) := Lib.hid (HZ.out.step ((Only.refl _ wy3).alloc (fun _ h => .inr h) _) (fun _ hk => .inl hk))
          replace HR2 := Lib.hid (own_later HR2.out ((Only.refl (· ≥ wy3.heap.size) wy3).alloc (fun _ h => h) _) : (wy3.alloc (.cells #[.int .i64 y1, .slice (some ⟨zb, 0, none⟩) 256 256] 41)).ownsRow w6.heap.size 41 2 (.slice (some ⟨g2, 0, none⟩) rn t2) rn C)
          clear hHeld
          refine hK.out _ _ (KP.out _ HW4.out) (fun hHeld => ?_)
          clear hK K
          try simp only [Act.put, List.setIfInBounds_toArray, List.set_cons_zero, List.set_cons_succ]
          generalize hwz : (wy3.alloc (.cells #[.int .i64 y1, .slice (some ⟨zb, 0, none⟩) 256 256] 41)) = wy4 at HW4 HZ HR2 HB1 hHeld ⊢
          clear hwz
          generalize hgz : wy3.heap.size = r1 at HB1 ⊢
          clear hgz
          refine wpAnyL_ready (rs := [11]) (by kernel_rfl) (by kernel_rfl) (by simp) ?_
          refine AllReadyL.cons (o := ?_) ?_ (fun K hK => ?_) AllReadyL.nil
          case refine_2 => (simp only [List.getElem?_cons_succ, List.getElem?_cons_zero]; rfl)
          rw [if_pos (by kernel_rfl)]
          refine wp_append_w (.tmp 43) (.tmp 51) rfl w6.heap.size g2 rn t2 C rfl HR2.out (some ⟨r1, 0, none⟩) 1 1 [.int .i64 y1, .slice (some ⟨zb, 0, none⟩) 256 256] rfl (fun e => by cases e) rfl (fun ad e j u hu => by cases e; rw [Addr.add_lit, Nat.zero_add, HB1.out.now.cell]; exact hu) (by simp [Value.oneCell']) (by omega) (by omega) HW4.out.size (fun g9 t9 wy5 hr hgn hbg ho => ?_)
          have HR9 := Lib.hid hr
          have HW5 : Hid (Only (w6.heap.size ≤ ·) w6 wy5) := Lib.hid (HW4.out.trans (ho.mono fun j hj => hj.elim (fun e => by rw [e]; exact hbg) (fun h => Nat.le_trans HW4.out.size h)))
          replace HZ : Hid (Stab (fun k : Nat => k = g9) wy5 (fun W => Src W (.slice (some ⟨zb, 0, none⟩) 256 256) z256)) := Lib.hid (HZ.out.step ho (fun k hk => by rw [hk]; exact hgn))
          clear hr ho hgn hbg
          clear hHeld
          refine hK.out _ _ (KP.out _ HW5.out) (fun hHeld => ?_)
          clear hK K
          try simp only [Act.put, List.setIfInBounds_toArray, List.set_cons_zero, List.set_cons_succ]
          refine oneA 12 9 hsel (h := ?_)
          simp only [Act.put, List.setIfInBounds_toArray, List.set_cons_zero, List.set_cons_succ]
          refine wpAnyL_done (by kernel_rfl) (by kernel_rfl) ?_ _
          clear hsel hHeld
          go_wp2_with (fail)
          refine Met.intro ?_
          go_step
          (repeat apply Exists.intro)
          refine ⟨?rel8021011, rfl⟩
          exact ⟨g9, t9, rfl, HW5, Lib.hid (wts_own HR9.out (Den.append (HDN6.out _ HW5.out) (Den.single ⟨some ⟨zb, 0, none⟩, 256, by rw [z256_len], HZS.out _ HZ.out.now⟩)) (by rw [List.length_append, List.length_singleton, ← HLN.out]))⟩
        case refine_6 =>
          go_simp
          have HW3 : Hid (Only (w6.heap.size ≤ ·) w6 (wy2.alloc (.cells #[.int .i64 y1, .slice (some ⟨zb, 0, none⟩) 256 256] 41))) := Lib.hid (HW2.out.alloc (fun _ h => h) _)
          have HB1 : Hid (Stab (fun k : Nat => k = g0) (wy2.alloc (.cells #[.int .i64 y1, .slice (some ⟨zb, 0, none⟩) 256 256] 41)) (fun W => Blk W wy2.heap.size 41 [.int .i64 y1, .slice (some ⟨zb, 0, none⟩) 256 256])) := Lib.hid (blk_stab (D := (fun k : Nat => k = g0)) (Blk.new wy2 41 [.int .i64 y1, .slice (some ⟨zb, 0, none⟩) 256 256]) (fun e => by have h9 : g0 < wy2.heap.size := (World.ownsRow.lt HR0.out g0 rfl).2; omega))
          replace HZ : Hid (Stab (fun k : Nat => k = g0) (wy2.alloc (.cells #[.int .i64 y1, .slice (some ⟨zb, 0, none⟩) 256 256] 41)) (fun W => Src W (.slice (some ⟨zb, 0, none⟩) 256 256) z256)) := Lib.hid (HZ.out.step ((Only.refl _ wy2).alloc (fun _ h => .inr h) _) (fun _ hk => .inl hk))
          replace HR0 := Lib.hid (own_later HR0.out ((Only.refl (· ≥ wy2.heap.size) wy2).alloc (fun _ h => h) _) : (wy2.alloc (.cells #[.int .i64 y1, .slice (some ⟨zb, 0, none⟩) 256 256] 41)).ownsRow w6.heap.size 41 2 (.slice (some ⟨g0, 0, none⟩) 0 0) 0 [])
          clear hHeld
          refine hK.out _ _ (KP.out _ HW3.out) (fun hHeld => ?_)
          clear hK K
          try simp only [Act.put, List.setIfInBounds_toArray, List.set_cons_zero, List.set_cons_succ]
          generalize hwz : (wy2.alloc (.cells #[.int .i64 y1, .slice (some ⟨zb, 0, none⟩) 256 256] 41)) = wy3 at HW3 HZ HR0 HB1 hHeld ⊢
          clear hwz
          generalize hgz : wy2.heap.size = r1 at HB1 ⊢
          clear hgz
          refine wpAnyL_ready (rs := [2]) (by kernel_rfl) (by kernel_rfl) (by simp) ?_
          refine AllReadyL.cons (o := ?_) ?_ (fun K hK => ?_) AllReadyL.nil
          case refine_2 => (simp only [List.getElem?_cons_succ, List.getElem?_cons_zero]; rfl)
          rw [if_pos (by kernel_rfl)]
          refine wp_append_w (.tmp 41) (.tmp 42) rfl w6.heap.size g0 0 0 [] rfl HR0.out (some ⟨gx, 0, none⟩) rn tt C rfl (fun e => by cases e) HCLX.out (fun ad e j u hu => by cases e; rw [Addr.add_lit, Nat.zero_add]; exact HCX6.out _ HW3.out j u hu) HC1X.out (by omega) (by omega) HW3.out.size (fun g2 t2 wy4 hr hgn hbg ho => ?_)
          rw [Nat.zero_add, List.nil_append] at hr
          rw [Nat.zero_add]
          have HR2 := Lib.hid hr
          have HW4 : Hid (Only (w6.heap.size ≤ ·) w6 wy4) := Lib.hid (HW3.out.trans (ho.mono fun j hj => hj.elim (fun e => by rw [e]; exact hbg) (fun h => Nat.le_trans HW3.out.size h)))
          replace HZ : Hid (Stab (fun k : Nat => k = g2) wy4 (fun W => Src W (.slice (some ⟨zb, 0, none⟩) 256 256) z256)) := Lib.hid (HZ.out.step ho (fun k hk => by rw [hk]; exact hgn))
          replace HB1 : Hid (Stab (fun k : Nat => k = g2) wy4 (fun W => Blk W r1 41 [.int .i64 y1, .slice (some ⟨zb, 0, none⟩) 256 256])) := Lib.hid (HB1.out.step ho (fun k hk => by rw [hk]; exact hgn))
          clear hr ho hgn hbg
          clear hHeld
          refine hK.out _ _ (KP.out _ HW4.out) (fun hHeld => ?_)
          clear hK K
          try simp only [Act.put, List.setIfInBounds_toArray, List.set_cons_zero, List.set_cons_succ]
          refine wpAnyL_ready (rs := [11]) (by kernel_rfl) (by kernel_rfl) (by simp) ?_
          refine AllReadyL.cons (o := ?_) ?_ (fun K hK => ?_) AllReadyL.nil
          case refine_2 => (simp only [List.getElem?_cons_succ, List.getElem?_cons_zero]; rfl)
          rw [if_pos (by kernel_rfl)]
          refine wp_append_w (.tmp 43) (.tmp 51) rfl w6.heap.size g2 rn t2 C rfl HR2.out (some ⟨r1, 0, none⟩) 1 1 [.int .i64 y1, .slice (some ⟨zb, 0, none⟩) 256 256] rfl (fun e => by cases e) rfl (fun ad e j u hu => by cases e; rw [Addr.add_lit, Nat.zero_add, HB1.out.now.cell]; exact hu) (by simp [Value.oneCell']) (by omega) (by omega) HW4.out.size (fun g9 t9 wy5 hr hgn hbg ho => ?_)
          have HR9 := Lib.hid hr
          have HW5 : Hid (Only (w6.heap.size ≤ ·) w6 wy5) := Lib.hid (HW4.out.trans (ho.mono fun j hj => hj.elim (fun e => by rw [e]; exact hbg) (fun h => Nat.le_trans HW4.out.size h)))
          replace HZ : Hid (Stab (fun k : Nat => k = g9) wy5 (fun W => Src W (.slice (some ⟨zb, 0, none⟩) 256 256) z256)) := Lib.hid (HZ.out.step ho (fun k hk => by rw [hk]; exact hgn))
          clear hr ho hgn hbg
          clear hHeld
          refine hK.out _ _ (KP.out _ HW5.out) (fun hHeld => ?_)
          clear hK K
          try simp only [Act.put, List.setIfInBounds_toArray, List.set_cons_zero, List.set_cons_succ]
          refine oneA 12 9 hsel (h := ?_)
          simp only [Act.put, List.setIfInBounds_toArray, List.set_cons_zero, List.set_cons_succ]
          refine wpAnyL_done (by kernel_rfl) (by kernel_rfl) ?_ _
          clear hsel hHeld
          go_wp2_with (fail)
          refine Met.intro ?_
          go_step
          (repeat apply Exists.intro)
          refine ⟨?rel8010211, rfl⟩
          exact ⟨g9, t9, rfl, HW5, Lib.hid (wts_own HR9.out (Den.append (HDN6.out _ HW5.out) (Den.single ⟨some ⟨zb, 0, none⟩, 256, by rw [z256_len], HZS.out _ HZ.out.now⟩)) (by rw [List.length_append, List.length_singleton, ← HLN.out]))⟩
      case refine_6 =>
        go_simp
        have HW2 : Hid (Only (w6.heap.size ≤ ·) w6 (wy1.alloc (.cells #[.int .i64 y1, .slice (some ⟨zb, 0, none⟩) 256 256] 41))) := Lib.hid (HW1.out.alloc (fun _ h => h) _)
        have HB1 : Hid (Stab (fun _ : Nat => False) (wy1.alloc (.cells #[.int .i64 y1, .slice (some ⟨zb, 0, none⟩) 256 256] 41)) (fun W => Blk W wy1.heap.size 41 [.int .i64 y1, .slice (some ⟨zb, 0, none⟩) 256 256])) := Lib.hid (blk_stab (D := (fun _ : Nat => False)) (Blk.new wy1 41 [.int .i64 y1, .slice (some ⟨zb, 0, none⟩) 256 256]) (fun h => h))
        replace HZ : Hid (Stab (fun _ : Nat => False) (wy1.alloc (.cells #[.int .i64 y1, .slice (some ⟨zb, 0, none⟩) 256 256] 41)) (fun W => Src W (.slice (some ⟨zb, 0, none⟩) 256 256) z256)) := Lib.hid (HZ.out.step ((Only.refl _ wy1).alloc (fun _ h => .inr h) _) (fun _ hk => .inl hk))
        clear hHeld
        refine hK.out _ _ (KP.out _ HW2.out) (fun hHeld => ?_)
        clear hK K
        try simp only [Act.put, List.setIfInBounds_toArray, List.set_cons_zero, List.set_cons_succ]
        generalize hwz : (wy1.alloc (.cells #[.int .i64 y1, .slice (some ⟨zb, 0, none⟩) 256 256] 41)) = wy2 at HW2 HZ HB1 hHeld ⊢
        clear hwz
        generalize hgz : wy1.heap.size = r1 at HB1 ⊢
        clear hgz
        refine wpAnyL_ready (rs := [0]) (by kernel_rfl) (by kernel_rfl) (by simp) ?_
        refine AllReadyL.cons (o := ?_) ?_ (fun K hK => ?_) AllReadyL.nil
        case refine_2 => (simp only [List.getElem?_cons_zero]; rfl)
        go_simp
        have HW3 : Hid (Only (w6.heap.size ≤ ·) w6 (wy2.alloc (.cells #[] 41))) := Lib.hid (HW2.out.alloc (fun _ h => h) _)
        have HR0 := Lib.hid (own_le (own_none wy2 41 2) HW2.out.size)
        replace HZ : Hid (Stab (fun k : Nat => k = wy2.heap.size) (wy2.alloc (.cells #[] 41)) (fun W => Src W (.slice (some ⟨zb, 0, none⟩) 256 256) z256)) := Lib.hid (HZ.out.step ((Only.refl _ wy2).alloc (fun _ h => .inr h) _) (fun k hk => .inr (Nat.le_of_eq hk.symm)))
        replace HB1 : Hid (Stab (fun k : Nat => k = wy2.heap.size) (wy2.alloc (.cells #[] 41)) (fun W => Blk W r1 41 [.int .i64 y1, .slice (some ⟨zb, 0, none⟩) 256 256])) := Lib.hid (HB1.out.step ((Only.refl _ wy2).alloc (fun _ h => .inr h) _) (fun k hk => .inr (Nat.le_of_eq hk.symm)))
        clear hHeld
        refine hK.out _ _ (KP.out _ HW3.out) (fun hHeld => ?_)
        clear hK K
        try simp only [Act.put, List.setIfInBounds_toArray, List.set_cons_zero, List.set_cons_succ]
        generalize hwz : (wy2.alloc (.cells #[] 41)) = wy3 at HW3 HZ HB1 HR0 hHeld ⊢
        clear hwz
        generalize hgz : wy2.heap.size = g0 at HR0 HZ HB1 ⊢
        clear hgz
        refine wpAnyL_ready (rs := [2]) (by kernel_rfl) (by kernel_rfl) (by simp) ?_
        refine AllReadyL.cons (o := ?_) ?_ (fun K hK => ?_) AllReadyL.nil
        case refine_2 => (simp only [List.getElem?_cons_succ, List.getElem?_cons_zero]; rfl)
        rw [if_pos (by kernel_rfl)]
        refine wp_append_w (.tmp 41) (.tmp 42) rfl w6.heap.size g0 0 0 [] rfl HR0.out (some ⟨gx, 0, none⟩) rn tt C rfl (fun e => by cases e) HCLX.out (fun ad e j u hu => by cases e; rw [Addr.add_lit, Nat.zero_add]; exact HCX6.out _ HW3.out j u hu) HC1X.out (by omega) (by omega) HW3.out.size (fun g2 t2 wy4 hr hgn hbg ho => ?_)
        rw [Nat.zero_add, List.nil_append] at hr
        rw [Nat.zero_add]
        have HR2 := Lib.hid hr
        have HW4 : Hid (Only (w6.heap.size ≤ ·) w6 wy4) := Lib.hid (HW3.out.trans (ho.mono fun j hj => hj.elim (fun e => by rw [e]; exact hbg) (fun h => Nat.le_trans HW3.out.size h)))
        replace HZ : Hid (Stab (fun k : Nat => k = g2) wy4 (fun W => Src W (.slice (some ⟨zb, 0, none⟩) 256 256) z256)) := Lib.hid (HZ.out.step ho (fun k hk => by rw [hk]; exact hgn))
        replace HB1 : Hid (Stab (fun k : Nat => k = g2) wy4 (fun W => Blk W r1 41 [.int .i64 y1, .slice (some ⟨zb, 0, none⟩) 256 256])) := Lib.hid (HB1.out.step ho (fun k hk => by rw [hk]; exact hgn))
        clear hr ho hgn hbg
        clear hHeld
        refine hK.out _ _ (KP.out _ HW4.out) (fun hHeld => ?_)
        clear hK K
        try simp only [Act.put, List.setIfInBounds_toArray, List.set_cons_zero, List.set_cons_succ]
        refine wpAnyL_ready (rs := [11]) (by kernel_rfl) (by kernel_rfl) (by simp) ?_
        refine AllReadyL.cons (o := ?_) ?_ (fun K hK => ?_) AllReadyL.nil
        case refine_2 => (simp only [List.getElem?_cons_succ, List.getElem?_cons_zero]; rfl)
        rw [if_pos (by kernel_rfl)]
        refine wp_append_w (.tmp 43) (.tmp 51) rfl w6.heap.size g2 rn t2 C rfl HR2.out (some ⟨r1, 0, none⟩) 1 1 [.int .i64 y1, .slice (some ⟨zb, 0, none⟩) 256 256] rfl (fun e => by cases e) rfl (fun ad e j u hu => by cases e; rw [Addr.add_lit, Nat.zero_add, HB1.out.now.cell]; exact hu) (by simp [Value.oneCell']) (by omega) (by omega) HW4.out.size (fun g9 t9 wy5 hr hgn hbg ho => ?_)
        have HR9 := Lib.hid hr
        have HW5 : Hid (Only (w6.heap.size ≤ ·) w6 wy5) := Lib.hid (HW4.out.trans (ho.mono fun j hj => hj.elim (fun e => by rw [e]; exact hbg) (fun h => Nat.le_trans HW4.out.size h)))
        replace HZ : Hid (Stab (fun k : Nat => k = g9) wy5 (fun W => Src W (.slice (some ⟨zb, 0, none⟩) 256 256) z256)) := Lib.hid (HZ.out.step ho (fun k hk => by rw [hk]; exact hgn))
        clear hr ho hgn hbg
        clear hHeld
        refine hK.out _ _ (KP.out _ HW5.out) (fun hHeld => ?_)
        clear hK K
        try simp only [Act.put, List.setIfInBounds_toArray, List.set_cons_zero, List.set_cons_succ]
        refine oneA 12 9 hsel (h := ?_)
        simp only [Act.put, List.setIfInBounds_toArray, List.set_cons_zero, List.set_cons_succ]
        refine wpAnyL_done (by kernel_rfl) (by kernel_rfl) ?_ _
        clear hsel hHeld
        go_wp2_with (fail)
        refine Met.intro ?_
        go_step
        (repeat apply Exists.intro)
        refine ⟨?rel8100211, rfl⟩
        exact ⟨g9, t9, rfl, HW5, Lib.hid (wts_own HR9.out (Den.append (HDN6.out _ HW5.out) (Den.single ⟨some ⟨zb, 0, none⟩, 256, by rw [z256_len], HZS.out _ HZ.out.now⟩)) (by rw [List.length_append, List.length_singleton, ← HLN.out]))⟩
  case rest =>
    obtain ⟨g9, t9, rfl, HOC, HT9⟩ := hcut
    have HOZ : Hid (Only (w.heap.size ≤ ·) w wc) := Lib.hid (on_new HOW6.out HOC.out)
    have HAC := Lib.hid (HA6.out.only HOC.out (Nat.not_le.2 HA6.out.lt))
    obtain ⟨q, hq⟩ : ∃ z, z = pgRight (okM g ph t x r p l n) p ws := ⟨_, rfl⟩
    have HRT : Hid (∀ W, Only (wc.heap.size ≤ ·) wc W → Calls Tryd.prog 18 #[.slice (some ⟨g6, 0, none⟩) rn t6, .agg #[.int .i64 g, .int .i64 ph, .int .i64 t, .int .i64 x, .int .i64 r, .int .i64 p, .int .i64 l, .slice A n c]] W (Told W (.bool q))) := Lib.hid (fun W hW => by
      have h1 := PgRight_c W g ph t x r p l A n c (some ⟨g6, 0, none⟩) rn t6 _ (HG.out.later (on_new HOZ.out hW)) (Rw.later HT6.out (on_new HOC.out hW)) (fun y hy => by
        have h2 : y ∈ ws := by rcases List.mem_append.1 hy with h3 | h3; exact List.mem_of_mem_drop h3; exact List.mem_of_mem_take h3
        exact (HI.out y h2).2)
      rwa [pgRight_turn, ← hq] at h1)
    have HRR : Hid (∀ W, Only (wc.heap.size ≤ ·) wc W → Calls Tryd.prog 8 #[.slice (some ⟨b, off, none⟩) rn rc, .agg #[.int .i64 g, .int .i64 ph, .int .i64 t, .int .i64 x, .int .i64 r, .int .i64 p, .int .i64 l, .slice A n c]] W (Told W (.bool q))) := Lib.hid (fun W hW => by
      have h1 := rPgRight_c W g ph t x r p l A n c (some ⟨b, off, none⟩) rn rc ws (Rw.later HW.out (on_new HOZ.out hW)) HI.out
      rwa [← hq] at h1)
    have HRW : Hid (∀ W, Only (wc.heap.size ≤ ·) wc W → Calls Tryd.prog 18 #[.slice (some ⟨g9, 0, none⟩) (rn + 1) t9, .agg #[.int .i64 g, .int .i64 ph, .int .i64 t, .int .i64 x, .int .i64 r, .int .i64 p, .int .i64 l, .slice A n c]] W (Told W (.bool false))) := Lib.hid (fun W hW => by
      have h1 := PgRight_c W g ph t x r p l A n c (some ⟨g9, 0, none⟩) (rn + 1) t9 _ (HG.out.later (on_new HOZ.out hW)) (Rw.later HT9.out hW) (fun y' hy => by
        rcases List.mem_append.1 hy with h3 | h3
        · exact (HI.out y' h3).2
        · rw [List.mem_singleton.1 h3, HY.out.2]
          exact (HI.out y (List.mem_of_getElem? HY.out.1)).2)
      rwa [HY.out.2, pgRight_twice HY.out.1 z256_len] at h1)
    have HV0 : Hid (Only (wc.heap.size ≤ ·) wc wc.drew) := Lib.hid ((Only.refl _ wc).drew)
    have KV : Hid (∀ W : World, Only (wc.heap.size ≤ ·) wc W → (fun W : World => W.cell? ⟨w.heap.size, 0, none⟩ = some (.int .i64 g) ∧ W.cell? ⟨w.heap.size, 1, none⟩ = some (.int .i64 ph) ∧ W.cell? ⟨w.heap.size, 2, none⟩ = some (.int .i64 t) ∧ W.cell? ⟨w.heap.size, 3, none⟩ = some (.int .i64 x) ∧ W.cell? ⟨w.heap.size, 4, none⟩ = some (.int .i64 r) ∧ W.cell? ⟨w.heap.size, 5, none⟩ = some (.int .i64 p) ∧ W.cell? ⟨w.heap.size, 6, none⟩ = some (.int .i64 l) ∧ W.cell? ⟨w.heap.size, 7, none⟩ = some (.slice A n c)) W) := Lib.hid (fun W hW => (HAC.out.only hW (Nat.not_le.2 HAC.out.lt)).eight)
    have HSV := Lib.hid (KV.out _ HV0.out)
    clear hq
    go_upto_region 6 with (fail)
    cases q with
    | false =>
      refine wp_region_list (B := [false, false, false, false, false, false, false, false, false, false, false, false, false, false, false, false, false]) (S := (fun W : World => W.cell? ⟨w.heap.size, 0, none⟩ = some (.int .i64 g) ∧ W.cell? ⟨w.heap.size, 1, none⟩ = some (.int .i64 ph) ∧ W.cell? ⟨w.heap.size, 2, none⟩ = some (.int .i64 t) ∧ W.cell? ⟨w.heap.size, 3, none⟩ = some (.int .i64 x) ∧ W.cell? ⟨w.heap.size, 4, none⟩ = some (.int .i64 r) ∧ W.cell? ⟨w.heap.size, 5, none⟩ = some (.int .i64 p) ∧ W.cell? ⟨w.heap.size, 6, none⟩ = some (.int .i64 l) ∧ W.cell? ⟨w.heap.size, 7, none⟩ = some (.slice A n c))) (by kernel_rfl) (by kernel_rfl) (by kernel_rfl) HSV.out (fun hsel hHeld => ?_)
      generalize hwz : World.drew _ = wv0 at HV0 HSV hHeld ⊢
      clear hwz
      refine wpAnyL_ready (rs := [0]) (by kernel_rfl) (by kernel_rfl) (by simp) ?_
      refine AllReadyL.cons (o := ?_) ?_ (fun K hK => ?_) AllReadyL.nil
      case refine_2 => (simp only [List.getElem?_cons_zero]; rfl)
      go_simp
      (go_at_call 9; (with_reducible refine (HAL.out _ (on_new HOZ.out HV0.out)).mono ?_); rintro e wv1 ⟨rfl, ho⟩; have HV1 := Lib.hid (on_new HV0.out ho); clear ho)
      go_wp2_with (fail)
      clear hHeld
      refine hK.out _ _ (KV.out _ HV1.out) (fun hHeld => ?_)
      clear hK K
      try simp only [Act.put, List.setIfInBounds_toArray, List.set_cons_zero, List.set_cons_succ]
      refine oneA 1 54 hsel (h := ?_)
      simp only [Act.put, List.setIfInBounds_toArray, List.set_cons_zero, List.set_cons_succ]
      refine oneA 2 55 hsel (h := ?_)
      simp only [Act.put, List.setIfInBounds_toArray, List.set_cons_zero, List.set_cons_succ]
      refine oneA 3 56 hsel (h := ?_)
      simp only [Act.put, List.setIfInBounds_toArray, List.set_cons_zero, List.set_cons_succ]
      refine oneA 5 58 hsel (h := ?_)
      simp only [Act.put, List.setIfInBounds_toArray, List.set_cons_zero, List.set_cons_succ]
      refine oneA 6 59 hsel (h := ?_)
      simp only [Act.put, List.setIfInBounds_toArray, List.set_cons_zero, List.set_cons_succ]
      refine wpAnyL_ready (rs := [4]) (by kernel_rfl) (by kernel_rfl) (by simp) ?_
      refine AllReadyL.cons (o := ?_) ?_ (fun K hK => ?_) AllReadyL.nil
      case refine_2 => (simp only [List.getElem?_cons_succ, List.getElem?_cons_zero]; rfl)
      go_simp
      (go_at_call 18; (with_reducible refine (HRT.out _ HV1.out).mono ?_); rintro e wv2 ⟨rfl, ho⟩; have HV2 := Lib.hid (on_new HV1.out ho); clear ho)
      go_wp2_with (fail)
      clear hHeld
      refine hK.out _ _ (KV.out _ HV2.out) (fun hHeld => ?_)
      clear hK K
      try simp only [Act.put, List.setIfInBounds_toArray, List.set_cons_zero, List.set_cons_succ]
      refine wpAnyL_ready (rs := [7]) (by kernel_rfl) (by kernel_rfl) (by simp) ?_
      refine AllReadyL.cons (o := ?_) ?_ (fun K hK => ?_) AllReadyL.nil
      case refine_2 => (simp only [List.getElem?_cons_succ, List.getElem?_cons_zero]; rfl)
      go_simp
      (go_at_call 8; (with_reducible refine (HRR.out _ HV2.out).mono ?_); rintro e wv3 ⟨rfl, ho⟩; have HV3 := Lib.hid (on_new HV2.out ho); clear ho)
      go_wp2_with (fail)
      clear hHeld
      refine hK.out _ _ (KV.out _ HV3.out) (fun hHeld => ?_)
      clear hK K
      try simp only [Act.put, List.setIfInBounds_toArray, List.set_cons_zero, List.set_cons_succ]
      refine oneA 8 61 hsel (h := ?_)
      simp only [Act.put, List.setIfInBounds_toArray, List.set_cons_zero, List.set_cons_succ]
      refine oneA 9 62 hsel (h := ?_)
      simp only [Act.put, List.setIfInBounds_toArray, List.set_cons_zero, List.set_cons_succ]
      refine oneA 10 63 hsel (h := ?_)
      simp only [Act.put, List.setIfInBounds_toArray, List.set_cons_zero, List.set_cons_succ]
      refine oneA 11 64 hsel (h := ?_)
      simp only [Act.put, List.setIfInBounds_toArray, List.set_cons_zero, List.set_cons_succ]
      refine oneA 12 65 hsel (h := ?_)
      simp only [Act.put, List.setIfInBounds_toArray, List.set_cons_zero, List.set_cons_succ]
      refine wpAnyL_ready (rs := [13]) (by kernel_rfl) (by kernel_rfl) (by simp) ?_
      refine AllReadyL.cons (o := ?_) ?_ (fun K hK => ?_) AllReadyL.nil
      case refine_2 => (simp only [List.getElem?_cons_succ, List.getElem?_cons_zero]; rfl)
      go_simp
      (go_at_call 18; (with_reducible refine (HRW.out _ HV3.out).mono ?_); rintro e wv4 ⟨rfl, ho⟩; have HV4 := Lib.hid (on_new HV3.out ho); clear ho)
      go_wp2_with (fail)
      clear hHeld
      refine hK.out _ _ (KV.out _ HV4.out) (fun hHeld => ?_)
      clear hK K
      try simp only [Act.put, List.setIfInBounds_toArray, List.set_cons_zero, List.set_cons_succ]
      refine oneA 14 67 hsel (h := ?_)
      simp only [Act.put, List.setIfInBounds_toArray, List.set_cons_zero, List.set_cons_succ]
      refine oneA 15 68 hsel (h := ?_)
      simp only [Act.put, List.setIfInBounds_toArray, List.set_cons_zero, List.set_cons_succ]
      refine oneA 16 6 hsel (h := ?_)
      simp only [Act.put, List.setIfInBounds_toArray, List.set_cons_zero, List.set_cons_succ]
      refine wpAnyL_done (by kernel_rfl) (by kernel_rfl) ?_ _
      clear hsel hHeld
      go_wp2_with (fail)
      go_ret
      exact ⟨rfl, on_new HOZ.out HV4.out⟩
    | true =>
      refine wp_region_list (B := [false, false, false, false, false, false, false, false, false, false, false, false, false, false, false, false, false]) (S := (fun W : World => W.cell? ⟨w.heap.size, 0, none⟩ = some (.int .i64 g) ∧ W.cell? ⟨w.heap.size, 1, none⟩ = some (.int .i64 ph) ∧ W.cell? ⟨w.heap.size, 2, none⟩ = some (.int .i64 t) ∧ W.cell? ⟨w.heap.size, 3, none⟩ = some (.int .i64 x) ∧ W.cell? ⟨w.heap.size, 4, none⟩ = some (.int .i64 r) ∧ W.cell? ⟨w.heap.size, 5, none⟩ = some (.int .i64 p) ∧ W.cell? ⟨w.heap.size, 6, none⟩ = some (.int .i64 l) ∧ W.cell? ⟨w.heap.size, 7, none⟩ = some (.slice A n c))) (by kernel_rfl) (by kernel_rfl) (by kernel_rfl) HSV.out (fun hsel hHeld => ?_)
      generalize hwz : World.drew _ = wv0 at HV0 HSV hHeld ⊢
      clear hwz
      refine wpAnyL_ready (rs := [0]) (by kernel_rfl) (by kernel_rfl) (by simp) ?_
      refine AllReadyL.cons (o := ?_) ?_ (fun K hK => ?_) AllReadyL.nil
      case refine_2 => (simp only [List.getElem?_cons_zero]; rfl)
      go_simp
      (go_at_call 9; (with_reducible refine (HAL.out _ (on_new HOZ.out HV0.out)).mono ?_); rintro e wv1 ⟨rfl, ho⟩; have HV1 := Lib.hid (on_new HV0.out ho); clear ho)
      go_wp2_with (fail)
      clear hHeld
      refine hK.out _ _ (KV.out _ HV1.out) (fun hHeld => ?_)
      clear hK K
      try simp only [Act.put, List.setIfInBounds_toArray, List.set_cons_zero, List.set_cons_succ]
      refine oneA 1 54 hsel (h := ?_)
      simp only [Act.put, List.setIfInBounds_toArray, List.set_cons_zero, List.set_cons_succ]
      refine oneA 2 55 hsel (h := ?_)
      simp only [Act.put, List.setIfInBounds_toArray, List.set_cons_zero, List.set_cons_succ]
      refine oneA 3 56 hsel (h := ?_)
      simp only [Act.put, List.setIfInBounds_toArray, List.set_cons_zero, List.set_cons_succ]
      refine oneA 5 58 hsel (h := ?_)
      simp only [Act.put, List.setIfInBounds_toArray, List.set_cons_zero, List.set_cons_succ]
      refine oneA 6 59 hsel (h := ?_)
      simp only [Act.put, List.setIfInBounds_toArray, List.set_cons_zero, List.set_cons_succ]
      refine wpAnyL_ready (rs := [4]) (by kernel_rfl) (by kernel_rfl) (by simp) ?_
      refine AllReadyL.cons (o := ?_) ?_ (fun K hK => ?_) AllReadyL.nil
      case refine_2 => (simp only [List.getElem?_cons_succ, List.getElem?_cons_zero]; rfl)
      go_simp
      (go_at_call 18; (with_reducible refine (HRT.out _ HV1.out).mono ?_); rintro e wv2 ⟨rfl, ho⟩; have HV2 := Lib.hid (on_new HV1.out ho); clear ho)
      go_wp2_with (fail)
      clear hHeld
      refine hK.out _ _ (KV.out _ HV2.out) (fun hHeld => ?_)
      clear hK K
      try simp only [Act.put, List.setIfInBounds_toArray, List.set_cons_zero, List.set_cons_succ]
      refine wpAnyL_ready (rs := [7]) (by kernel_rfl) (by kernel_rfl) (by simp) ?_
      refine AllReadyL.cons (o := ?_) ?_ (fun K hK => ?_) AllReadyL.nil
      case refine_2 => (simp only [List.getElem?_cons_succ, List.getElem?_cons_zero]; rfl)
      go_simp
      (go_at_call 8; (with_reducible refine (HRR.out _ HV2.out).mono ?_); rintro e wv3 ⟨rfl, ho⟩; have HV3 := Lib.hid (on_new HV2.out ho); clear ho)
      go_wp2_with (fail)
      clear hHeld
      refine hK.out _ _ (KV.out _ HV3.out) (fun hHeld => ?_)
      clear hK K
      try simp only [Act.put, List.setIfInBounds_toArray, List.set_cons_zero, List.set_cons_succ]
      refine oneA 8 61 hsel (h := ?_)
      simp only [Act.put, List.setIfInBounds_toArray, List.set_cons_zero, List.set_cons_succ]
      refine oneA 9 62 hsel (h := ?_)
      simp only [Act.put, List.setIfInBounds_toArray, List.set_cons_zero, List.set_cons_succ]
      refine oneA 10 63 hsel (h := ?_)
      simp only [Act.put, List.setIfInBounds_toArray, List.set_cons_zero, List.set_cons_succ]
      refine oneA 11 64 hsel (h := ?_)
      simp only [Act.put, List.setIfInBounds_toArray, List.set_cons_zero, List.set_cons_succ]
      refine oneA 12 65 hsel (h := ?_)
      simp only [Act.put, List.setIfInBounds_toArray, List.set_cons_zero, List.set_cons_succ]
      refine wpAnyL_ready (rs := [13]) (by kernel_rfl) (by kernel_rfl) (by simp) ?_
      refine AllReadyL.cons (o := ?_) ?_ (fun K hK => ?_) AllReadyL.nil
      case refine_2 => (simp only [List.getElem?_cons_succ, List.getElem?_cons_zero]; rfl)
      go_simp
      (go_at_call 18; (with_reducible refine (HRW.out _ HV3.out).mono ?_); rintro e wv4 ⟨rfl, ho⟩; have HV4 := Lib.hid (on_new HV3.out ho); clear ho)
      go_wp2_with (fail)
      clear hHeld
      refine hK.out _ _ (KV.out _ HV4.out) (fun hHeld => ?_)
      clear hK K
      try simp only [Act.put, List.setIfInBounds_toArray, List.set_cons_zero, List.set_cons_succ]
      refine oneA 14 67 hsel (h := ?_)
      simp only [Act.put, List.setIfInBounds_toArray, List.set_cons_zero, List.set_cons_succ]
      refine oneA 15 68 hsel (h := ?_)
      simp only [Act.put, List.setIfInBounds_toArray, List.set_cons_zero, List.set_cons_succ]
      refine oneA 16 6 hsel (h := ?_)
      simp only [Act.put, List.setIfInBounds_toArray, List.set_cons_zero, List.set_cons_succ]
      refine wpAnyL_done (by kernel_rfl) (by kernel_rfl) ?_ _
      clear hsel hHeld
      go_wp2_with (fail)
      go_ret
      exact ⟨rfl, on_new HOZ.out HV4.out⟩
theorem pright_c (w : World) (hG : Gens w) (g ph t x r p l : Int) (A : Option Addr) (n c : Nat) (RA : Option Addr) (rn rc : Nat) (ws : List Wt) (k : Int) (h : Wts w (.slice RA rn rc) ws) (hsum : ∀ y ∈ ws, y.2.length ≤ 140737488355328) (hI : ∀ y ∈ ws, I64v y.1) : Calls Tryd.prog 4 #[.slice RA rn rc, .agg #[.int .i64 g, .int .i64 ph, .int .i64 t, .int .i64 x, .int .i64 r, .int .i64 p, .int .i64 l, .slice A n c], .int .i64 k] w (Told w (.bool true)) := by
  by_cases hc : fewP ws p n = false ∨ rn = 0 ∨ k < 0 ∨ (rn : Int) ≤ k
  · exact pright_early w hG g ph t x r p l A n c RA rn rc ws k h hsum hc
  · have h1 : ¬ (rn = 0 ∨ k < 0 ∨ (rn : Int) ≤ k) := fun e => hc (.inr e)
    have h2 : fewP ws p n = true := by
      rw [← Bool.not_eq_false]
      exact fun e => hc (.inl e)
    exact pright_main w hG g ph t x r p l A n c RA rn rc ws k h hsum hI k.toNat (by omega) (by omega) h2
end Go.Proofs.YtopaponemjaenaaDoor
