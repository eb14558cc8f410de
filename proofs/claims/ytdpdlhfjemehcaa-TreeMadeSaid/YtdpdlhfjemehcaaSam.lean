/-
  Same of the document, and of the program, where both are the same.
-/
import Derived.Test.YtdpdlhfjemehcaaSame
import Derived.Test.YtdpdlhfjemehcaaNrm
import Derived.Test.YtdpdlhfjemehcaaCpy
set_option linter.unusedVariables false
namespace Go.Proofs.Ytdpdlhfjemehcaa
open Go.RowKit

theorem its_both {w : World} {A A2 : Option Addr} {n c c2 : Nat} {l : List It} (h : Its w (.slice A n c) l) (h2 : Its w (.slice A2 n c2) l) : (∀ (k : Nat), k < n → ∃ (b off b2 off2 : Nat) (P Q P2 Q2 : Option Addr) (t p e q p2 q2 : Nat) (s r : Int), A = some ⟨b, off, none⟩ ∧ A2 = some ⟨b2, off2, none⟩ ∧
    (∀ W, Only (w.heap.size ≤ ·) w W → W.cell? ⟨b, off + k * 4, none⟩ = some (.slice P t p) ∧ W.cell? ⟨b, off + k * 4 + 1, none⟩ = some (.slice Q e q) ∧ W.cell? ⟨b, off + k * 4 + 2, none⟩ = some (.int .i64 s) ∧ W.cell? ⟨b, off + k * 4 + 3, none⟩ = some (.int .i64 r) ∧
      W.cell? ⟨b2, off2 + k * 4, none⟩ = some (.slice P2 t p2) ∧ W.cell? ⟨b2, off2 + k * 4 + 1, none⟩ = some (.slice Q2 e q2) ∧ W.cell? ⟨b2, off2 + k * 4 + 2, none⟩ = some (.int .i64 s) ∧ W.cell? ⟨b2, off2 + k * 4 + 3, none⟩ = some (.int .i64 r)) ∧
    (∀ W, Only (w.heap.size ≤ ·) w W → Calls Try.prog 18 #[.agg #[.slice P t p, .slice Q e q, .int .i64 s, .int .i64 r], .agg #[.slice P2 t p2, .slice Q2 e q2, .int .i64 s, .int .i64 r]] W (Told W (.bool true)))) := by
  intro k hk
  obtain ⟨b, off, y, P, Q, p, q, e1, hb, hy, q0, q1, q2, q3, s1, s2⟩ := its_at h hk
  obtain ⟨b2, off2, y2, P2, Q2, p2, q2', e2, hb2, hy2, r0, r1, r2, r3, t1, t2⟩ := its_at h2 hk
  obtain rfl : y = y2 := Option.some.inj (hy.symm.trans hy2)
  obtain ⟨xs, ys, s, r⟩ := y
  have g : ∀ W, Only (w.heap.size ≤ ·) w W → ∀ j v, w.cell? ⟨b, j, none⟩ = some v → W.cell? ⟨b, j, none⟩ = some v := fun W hW j v hv => (hW.cell (p := ⟨b, j, none⟩) (Nat.not_le.2 hb)).trans hv
  have g2 : ∀ W, Only (w.heap.size ≤ ·) w W → ∀ j v, w.cell? ⟨b2, j, none⟩ = some v → W.cell? ⟨b2, j, none⟩ = some v := fun W hW j v hv => (hW.cell (p := ⟨b2, j, none⟩) (Nat.not_le.2 hb2)).trans hv
  exact ⟨b, off, b2, off2, P, Q, P2, Q2, xs.length, p, ys.length, q, p2, q2', s, r, e1, e2, fun W hW => ⟨g W hW _ _ q0, g W hW _ _ q1, g W hW _ _ q2, g W hW _ _ q3, g2 W hW _ _ r0, g2 W hW _ _ r1, g2 W hW _ _ r2, g2 W hW _ _ r3⟩,
    fun W hW => rSame_c W P Q P2 Q2 _ p _ q _ p2 _ q2' s r s r xs ys xs ys true (s1.later hW) (s2.later hW) (t1.later hW) (t2.later hW) (decide_eq_true ⟨rfl, rfl, rfl, rfl⟩)⟩

theorem kds_both {w : World} {B B2 : Option Addr} {m d d2 : Nat} {l : List Kd} (h : Kds w (.slice B m d) l) (h2 : Kds w (.slice B2 m d2) l) : (∀ (k : Nat), k < m → ∃ (b off b2 off2 : Nat) (P P2 : Option Addr) (t p p2 : Nat) (r : Int) (xs : Bytes), B = some ⟨b, off, none⟩ ∧ B2 = some ⟨b2, off2, none⟩ ∧ t = xs.length ∧
    (∀ W, Only (w.heap.size ≤ ·) w W → W.cell? ⟨b, off + k * 2, none⟩ = some (.slice P t p) ∧ W.cell? ⟨b, off + k * 2 + 1, none⟩ = some (.int .i64 r) ∧ W.cell? ⟨b2, off2 + k * 2, none⟩ = some (.slice P2 t p2) ∧ W.cell? ⟨b2, off2 + k * 2 + 1, none⟩ = some (.int .i64 r)) ∧
    (∀ W, Only (w.heap.size ≤ ·) w W → Src W (.slice P t p) xs ∧ Src W (.slice P2 t p2) xs)) := by
  intro k hk
  obtain ⟨b, off, y, P, p, e1, hb, hy, q0, q1, s1⟩ := kds_at h hk
  obtain ⟨b2, off2, y2, P2, p2, e2, hb2, hy2, r0, r1, t1⟩ := kds_at h2 hk
  obtain rfl : y = y2 := Option.some.inj (hy.symm.trans hy2)
  obtain ⟨xs, r⟩ := y
  have g : ∀ W, Only (w.heap.size ≤ ·) w W → ∀ j v, w.cell? ⟨b, j, none⟩ = some v → W.cell? ⟨b, j, none⟩ = some v := fun W hW j v hv => (hW.cell (p := ⟨b, j, none⟩) (Nat.not_le.2 hb)).trans hv
  have g2 : ∀ W, Only (w.heap.size ≤ ·) w W → ∀ j v, w.cell? ⟨b2, j, none⟩ = some v → W.cell? ⟨b2, j, none⟩ = some v := fun W hW j v hv => (hW.cell (p := ⟨b2, j, none⟩) (Nat.not_le.2 hb2)).trans hv
  exact ⟨b, off, b2, off2, P, P2, xs.length, p, p2, r, xs, e1, e2, rfl, fun W hW => ⟨g W hW _ _ q0, g W hW _ _ q1, g2 W hW _ _ r0, g2 W hW _ _ r1⟩, fun W hW => ⟨s1.later hW, t1.later hW⟩⟩

set_option maxRecDepth 100000 in
set_option maxHeartbeats 12800000 in
theorem DSame_eq (w : World) (f : Bool) (A B A2 B2 : Option Addr) (n c m d c2 d2 : Nat) (x : Nd) (h : Nod w x f (.slice A n c) (.slice B m d)) (h2 : Nod w x f (.slice A2 n c2) (.slice B2 m d2)) (hn : n ≤ 1000) (hm : m ≤ 1000) :
    Calls Try.prog 33 #[.agg #[.bool f, .slice A n c, .slice B m d], .agg #[.bool f, .slice A2 n c2, .slice B2 m d2]] w (Told w (.bool true)) := by
  have HO : Hid (Only (w.heap.size ≤ ·) w ((w.alloc (.cells #[.bool f, .slice A n c, .slice B m d] 29)).alloc (.cells #[.bool f, .slice A2 n c2, .slice B2 m d2] 29))) := ((Only.refl _ w).alloc (fun _ h => h) _).alloc (fun _ h => h) _
  have HI : Hid (Blk ((w.alloc (.cells #[.bool f, .slice A n c, .slice B m d] 29)).alloc (.cells #[.bool f, .slice A2 n c2, .slice B2 m d2] 29)) w.heap.size 29 [.bool f, .slice A n c, .slice B m d]) := (Blk.new w 29 _).alloc _
  have HJ : Hid (Blk ((w.alloc (.cells #[.bool f, .slice A n c, .slice B m d] 29)).alloc (.cells #[.bool f, .slice A2 n c2, .slice B2 m d2] 29)) (w.heap.size + 1) 29 [.bool f, .slice A2 n c2, .slice B2 m d2]) := Lib.hid (by
    have := Blk.new (w.alloc (.cells #[.bool f, .slice A n c, .slice B m d] 29)) 29 [.bool f, .slice A2 n c2, .slice B2 m d2]
    simpa using this)
  obtain ⟨W0, hW0⟩ : ∃ W0, W0 = ((w.alloc (.cells #[.bool f, .slice A n c, .slice B m d] 29)).alloc (.cells #[.bool f, .slice A2 n c2, .slice B2 m d2] 29)) := ⟨_, rfl⟩
  have HW0 := Lib.hid hW0
  rw [← hW0] at HO HI HJ
  clear hW0
  have HIT := Lib.hid (its_both h.2.1 h2.2.1)
  have HKD := Lib.hid (kds_both h.2.2 h2.2.2)
  have hc1 := h.2.1.cap
  have hc2 := h2.2.1.cap
  have hd1 := h.2.2.cap
  have hd2 := h2.2.2.cap
  have HCT : Hid (∀ W v u (xs : Bytes), Src W v xs → Src W u xs → Calls Try.prog 20 #[v, u] W (Told W (.int .i64 0))) := fun W v u xs h1 h2 => by
    have := rCompare_c W v u xs xs h1 h2
    rwa [cmp_self] at this
  clear h h2
  go_enter Try.func33, Try.ntmps33
  go_wp2
  rw [← HW0.out]
  clear HW0
  go_loopw [5] (fun i wr => ∃ (k : Nat), k ≤ n ∧ i = .int .i64 k ∧ Only (W0.heap.size ≤ ·) W0 wr) (fun i _ => n - (intOf i).toNat)
  case atStart => exact ⟨0, Nat.zero_le _, rfl, Only.refl _ _⟩
  case round =>
    obtain ⟨k, hk, rfl, ho⟩ := hrel
    have HOR := Lib.hid (on_new HO.out ho)
    have HOL := Lib.hid ho
    by_cases hlt : k < n
    · obtain ⟨b, off, b2, off2, P, Q, P2, Q2, t, p, e, q, p2, q2, s, r, rfl, rfl, hcells, hcall⟩ := HIT.out k hlt
      have HC := Lib.hid hcall
      clear hcall
      have HCS := Lib.hid hcells
      clear hcells
      have KP : Hid (∀ w' : World, Only (W0.heap.size ≤ ·) W0 w' → (w'.cell? ⟨w.heap.size, 1, none⟩ = some (.slice (some ⟨b, off, none⟩) n c) ∧ w'.cell? ⟨w.heap.size + 1, 1, none⟩ = some (.slice (some ⟨b2, off2, none⟩) n c2) ∧ w'.cell? ⟨b, off + k * 4, none⟩ = some (.slice P t p) ∧ w'.cell? ⟨b, off + k * 4 + 1, none⟩ = some (.slice Q e q) ∧ w'.cell? ⟨b, off + k * 4 + 2, none⟩ = some (.int .i64 s) ∧ w'.cell? ⟨b, off + k * 4 + 3, none⟩ = some (.int .i64 r) ∧ w'.cell? ⟨b2, off2 + k * 4, none⟩ = some (.slice P2 t p2) ∧ w'.cell? ⟨b2, off2 + k * 4 + 1, none⟩ = some (.slice Q2 e q2) ∧ w'.cell? ⟨b2, off2 + k * 4 + 2, none⟩ = some (.int .i64 s) ∧ w'.cell? ⟨b2, off2 + k * 4 + 3, none⟩ = some (.int .i64 r))) := fun W' hW => ⟨((HI.out.later hW).tri).2.1, ((HJ.out.later hW).tri).2.1, HCS.out W' (on_new HO.out hW)⟩
      obtain ⟨x1, x2, x3, x4, x5, x6, x7, x8, x9, x10⟩ := KP.out _ HOL.out
      have j1 : (0 : Int) ≤ (k : Int) := by omega
      have j2 : (k : Int) < (n : Int) := by omega
      clear ho
      go_wp2_with (fail)
      have HOZ : Hid (Only (W0.heap.size ≤ ·) W0 wr.drew) := HOL.out.drew
      refine wp_region_held_drew (S := (fun w' => (w'.cell? ⟨w.heap.size, 1, none⟩ = some (.slice (some ⟨b, off, none⟩) n c) ∧ w'.cell? ⟨w.heap.size + 1, 1, none⟩ = some (.slice (some ⟨b2, off2, none⟩) n c2) ∧ w'.cell? ⟨b, off + k * 4, none⟩ = some (.slice P t p) ∧ w'.cell? ⟨b, off + k * 4 + 1, none⟩ = some (.slice Q e q) ∧ w'.cell? ⟨b, off + k * 4 + 2, none⟩ = some (.int .i64 s) ∧ w'.cell? ⟨b, off + k * 4 + 3, none⟩ = some (.int .i64 r) ∧ w'.cell? ⟨b2, off2 + k * 4, none⟩ = some (.slice P2 t p2) ∧ w'.cell? ⟨b2, off2 + k * 4 + 1, none⟩ = some (.slice Q2 e q2) ∧ w'.cell? ⟨b2, off2 + k * 4 + 2, none⟩ = some (.int .i64 s) ∧ w'.cell? ⟨b2, off2 + k * 4 + 3, none⟩ = some (.int .i64 r)))) (by kernel_rfl) (KP.out _ HOZ.out) (fun hHeld => ?_)
      refine take_one (i := 0) (d := 37) (oi := ?_) (v := ?_) ?_ (by kernel_rfl) (by kernel_rfl) (by kernel_rfl) (fun _ _ _ h => h) ?_ ?_ ?_ (by assumption) ?_
      case refine_3 => (simp only [List.getElem?_toArray, List.getElem?_cons_zero]; rfl)
      case refine_4 => rfl
      case refine_5 => rfl
      case refine_6 => (intro w' hSw; (try dsimp only at hSw); go_simp; (try with_reducible rfl))
      simp only [Act.put, List.setIfInBounds_toArray, List.set_cons_zero, List.set_cons_succ]
      refine take_one (i := 1) (d := 38) (oi := ?_) (v := ?_) ?_ (by kernel_rfl) (by kernel_rfl) (by kernel_rfl) (fun _ _ _ h => h) ?_ ?_ ?_ (by assumption) ?_
      case refine_3 => (simp only [List.getElem?_toArray, List.getElem?_cons_succ, List.getElem?_cons_zero]; rfl)
      case refine_4 => rfl
      case refine_5 => rfl
      case refine_6 => (intro w' hSw; (try dsimp only at hSw); go_simp; (try with_reducible rfl))
      simp only [Act.put, List.setIfInBounds_toArray, List.set_cons_zero, List.set_cons_succ]
      refine take_one (i := 2) (d := 39) (oi := ?_) (v := ?_) ?_ (by kernel_rfl) (by kernel_rfl) (by kernel_rfl) (fun _ _ _ h => h) ?_ ?_ ?_ (by assumption) ?_
      case refine_3 => (simp only [List.getElem?_toArray, List.getElem?_cons_succ, List.getElem?_cons_zero]; rfl)
      case refine_4 => rfl
      case refine_5 => rfl
      case refine_6 => (intro w' hSw; (try dsimp only at hSw); go_simp; (try with_reducible rfl))
      simp only [Act.put, List.setIfInBounds_toArray, List.set_cons_zero, List.set_cons_succ]
      refine take_one (i := 3) (d := 40) (oi := ?_) (v := ?_) ?_ (by kernel_rfl) (by kernel_rfl) (by kernel_rfl) (fun _ _ _ h => h) ?_ ?_ ?_ (by assumption) ?_
      case refine_3 => (simp only [List.getElem?_toArray, List.getElem?_cons_succ, List.getElem?_cons_zero]; rfl)
      case refine_4 => rfl
      case refine_5 => rfl
      case refine_6 => (intro w' hSw; (try dsimp only at hSw); go_simp; (try with_reducible rfl))
      simp only [Act.put, List.setIfInBounds_toArray, List.set_cons_zero, List.set_cons_succ]
      refine take_one (i := 4) (d := 41) (oi := ?_) (v := ?_) ?_ (by kernel_rfl) (by kernel_rfl) (by kernel_rfl) (fun _ _ _ h => h) ?_ ?_ ?_ (by assumption) ?_
      case refine_3 => (simp only [List.getElem?_toArray, List.getElem?_cons_succ, List.getElem?_cons_zero]; rfl)
      case refine_4 => rfl
      case refine_5 => rfl
      case refine_6 => (intro w' hSw; (try dsimp only at hSw); go_simp; (try with_reducible rfl))
      simp only [Act.put, List.setIfInBounds_toArray, List.set_cons_zero, List.set_cons_succ]
      refine take_one (i := 5) (d := 42) (oi := ?_) (v := ?_) ?_ (by kernel_rfl) (by kernel_rfl) (by kernel_rfl) (fun _ _ _ h => h) ?_ ?_ ?_ (by assumption) ?_
      case refine_3 => (simp only [List.getElem?_toArray, List.getElem?_cons_succ, List.getElem?_cons_zero]; rfl)
      case refine_4 => rfl
      case refine_5 => rfl
      case refine_6 => (intro w' hSw; (try dsimp only at hSw); go_simp; (try with_reducible rfl))
      simp only [Act.put, List.setIfInBounds_toArray, List.set_cons_zero, List.set_cons_succ]
      refine take_one (i := 6) (d := 43) (oi := ?_) (v := ?_) ?_ (by kernel_rfl) (by kernel_rfl) (by kernel_rfl) (fun _ _ _ h => h) ?_ ?_ ?_ (by assumption) ?_
      case refine_3 => (simp only [List.getElem?_toArray, List.getElem?_cons_succ, List.getElem?_cons_zero]; rfl)
      case refine_4 => rfl
      case refine_5 => rfl
      case refine_6 => (intro w' hSw; (try dsimp only at hSw); go_simp; (try with_reducible rfl))
      simp only [Act.put, List.setIfInBounds_toArray, List.set_cons_zero, List.set_cons_succ]
      refine take_one (i := 7) (d := 44) (oi := ?_) (v := ?_) ?_ (by kernel_rfl) (by kernel_rfl) (by kernel_rfl) (fun _ _ _ h => h) ?_ ?_ ?_ (by assumption) ?_
      case refine_3 => (simp only [List.getElem?_toArray, List.getElem?_cons_succ, List.getElem?_cons_zero]; rfl)
      case refine_4 => rfl
      case refine_5 => rfl
      case refine_6 => (intro w' hSw; (try dsimp only at hSw); go_simp; (try with_reducible rfl))
      simp only [Act.put, List.setIfInBounds_toArray, List.set_cons_zero, List.set_cons_succ]
      refine take_one (i := 8) (d := 45) (oi := ?_) (v := ?_) ?_ (by kernel_rfl) (by kernel_rfl) (by kernel_rfl) (fun _ _ _ h => h) ?_ ?_ ?_ (by assumption) ?_
      case refine_3 => (simp only [List.getElem?_toArray, List.getElem?_cons_succ, List.getElem?_cons_zero]; rfl)
      case refine_4 => rfl
      case refine_5 => rfl
      case refine_6 => (intro w' hSw; (try dsimp only at hSw); go_simp; (try with_reducible rfl))
      simp only [Act.put, List.setIfInBounds_toArray, List.set_cons_zero, List.set_cons_succ]
      refine take_one (i := 9) (d := 46) (oi := ?_) (v := ?_) ?_ (by kernel_rfl) (by kernel_rfl) (by kernel_rfl) (fun _ _ _ h => h) ?_ ?_ ?_ (by assumption) ?_
      case refine_3 => (simp only [List.getElem?_toArray, List.getElem?_cons_succ, List.getElem?_cons_zero]; rfl)
      case refine_4 => rfl
      case refine_5 => rfl
      case refine_6 => (intro w' hSw; (try dsimp only at hSw); go_simp; (try with_reducible rfl))
      simp only [Act.put, List.setIfInBounds_toArray, List.set_cons_zero, List.set_cons_succ]
      refine wpAnyH_ready (rs := [10]) (by kernel_rfl) (by simp) ?_
      refine AllReadyH.cons (o := ?_) ?_ (fun K hK => ?_) AllReadyH.nil
      case refine_2 => (simp only [List.getElem?_toArray, List.getElem?_cons_succ, List.getElem?_cons_zero]; rfl)
      go_simp
      (go_at_call 18; (with_reducible refine (HC.out _ (on_new HO.out HOZ.out)).mono ?_); rintro e w3 ⟨rfl, ho⟩; (replace HOZ := Lib.hid (on_new HOZ.out ho)); clear ho)
      go_wp2_with (fail)
      refine hK.out _ _ (KP.out _ HOZ.out) (fun hHeld => ?_)
      clear hK K
      try simp only [Act.put, List.setIfInBounds_toArray, List.set_cons_zero, List.set_cons_succ]
      refine take_one (i := 11) (d := 48) (oi := ?_) (v := ?_) ?_ (by kernel_rfl) (by kernel_rfl) (by kernel_rfl) (fun _ _ _ h => h) ?_ ?_ ?_ (by assumption) ?_
      case refine_3 => (simp only [List.getElem?_toArray, List.getElem?_cons_succ, List.getElem?_cons_zero]; rfl)
      case refine_4 => rfl
      case refine_5 => rfl
      case refine_6 => (intro w' hSw; (try dsimp only at hSw); go_simp; (try with_reducible rfl))
      simp only [Act.put, List.setIfInBounds_toArray, List.set_cons_zero, List.set_cons_succ]
      refine wpAnyH_done (by kernel_rfl) ?_ _
      clear x1 x2 x3 x4 x5 x6 x7 x8 x9 x10
      go_wp2
      go_roundw
      case rel => exact ⟨k + 1, by omega, by go_num, HOZ.out⟩
      case measure => simp [intOf]; omega
    · obtain rfl : n = k := by omega
      have hkm : ¬ (n : Int) < (n : Int) := by omega
      obtain ⟨i0, i1, i2⟩ := (HI.out.later ho).tri
      obtain ⟨k0, k1, k2⟩ := (HJ.out.later ho).tri
      clear ho
      go_wp2
      clear hkm i0 i1 i2 k0 k1 k2
      obtain ⟨wn, hwn⟩ : ∃ wn, wn = wr := ⟨_, rfl⟩
      subst hwn
      go_loopw [6] (fun i wr => ∃ (k : Nat), k ≤ m ∧ i = .int .i64 k ∧ Only (wn.heap.size ≤ ·) wn wr) (fun i _ => m - (intOf i).toNat)
      case atStart => exact ⟨0, Nat.zero_le _, rfl, Only.refl _ _⟩
      case round =>
        obtain ⟨k, hk, rfl, ho⟩ := hrel
        have HOX := Lib.hid ho
        replace ho := HOL.out.trans (ho.mono fun k h => Nat.le_trans HOL.out.size h)
        have HOR2 := Lib.hid (on_new HO.out ho)
        have HOL2 := Lib.hid ho
        by_cases hlt : k < m
        · obtain ⟨b, off, b2, off2, P, P2, t, p, p2, r, xs, rfl, rfl, ht, hcells, hsrc⟩ := HKD.out k hlt
          have HC := Lib.hid hsrc
          have HCS := Lib.hid hcells
          clear hcells hsrc
          have KP : Hid (∀ w' : World, Only (W0.heap.size ≤ ·) W0 w' → (w'.cell? ⟨w.heap.size, 2, none⟩ = some (.slice (some ⟨b, off, none⟩) m d) ∧ w'.cell? ⟨w.heap.size + 1, 2, none⟩ = some (.slice (some ⟨b2, off2, none⟩) m d2) ∧ w'.cell? ⟨b, off + k * 2, none⟩ = some (.slice P t p) ∧ w'.cell? ⟨b, off + k * 2 + 1, none⟩ = some (.int .i64 r) ∧ w'.cell? ⟨b2, off2 + k * 2, none⟩ = some (.slice P2 t p2) ∧ w'.cell? ⟨b2, off2 + k * 2 + 1, none⟩ = some (.int .i64 r))) := fun W' hW => ⟨((HI.out.later hW).tri).2.2, ((HJ.out.later hW).tri).2.2, HCS.out W' (on_new HO.out hW)⟩
          obtain ⟨x1, x2, x3, x4, x5, x6⟩ := KP.out _ HOL2.out
          have j1 : (0 : Int) ≤ (k : Int) := by omega
          have j2 : (k : Int) < (m : Int) := by omega
          clear ht ho
          go_wp2_with (fail)
          have HOW : Hid (Only (wr.heap.size ≤ ·) wr wr.drew) := (Only.refl _ wr).drew
          have HOZ : Hid (Only (W0.heap.size ≤ ·) W0 wr.drew) := HOL2.out.drew
          refine wp_region_held_drew (S := (fun w' => (w'.cell? ⟨w.heap.size, 2, none⟩ = some (.slice (some ⟨b, off, none⟩) m d) ∧ w'.cell? ⟨w.heap.size + 1, 2, none⟩ = some (.slice (some ⟨b2, off2, none⟩) m d2) ∧ w'.cell? ⟨b, off + k * 2, none⟩ = some (.slice P t p) ∧ w'.cell? ⟨b, off + k * 2 + 1, none⟩ = some (.int .i64 r) ∧ w'.cell? ⟨b2, off2 + k * 2, none⟩ = some (.slice P2 t p2) ∧ w'.cell? ⟨b2, off2 + k * 2 + 1, none⟩ = some (.int .i64 r)))) (by kernel_rfl) (KP.out _ HOZ.out) (fun hHeld => ?_)
          refine take_one (i := 0) (d := 56) (oi := ?_) (v := ?_) ?_ (by kernel_rfl) (by kernel_rfl) (by kernel_rfl) (fun _ _ _ h => h) ?_ ?_ ?_ (by assumption) ?_
          case refine_3 => (simp only [List.getElem?_toArray, List.getElem?_cons_zero]; rfl)
          case refine_4 => rfl
          case refine_5 => rfl
          case refine_6 => (intro w' hSw; (try dsimp only at hSw); go_simp; (try with_reducible rfl))
          simp only [Act.put, List.setIfInBounds_toArray, List.set_cons_zero, List.set_cons_succ]
          refine take_one (i := 1) (d := 57) (oi := ?_) (v := ?_) ?_ (by kernel_rfl) (by kernel_rfl) (by kernel_rfl) (fun _ _ _ h => h) ?_ ?_ ?_ (by assumption) ?_
          case refine_3 => (simp only [List.getElem?_toArray, List.getElem?_cons_succ, List.getElem?_cons_zero]; rfl)
          case refine_4 => rfl
          case refine_5 => rfl
          case refine_6 => (intro w' hSw; (try dsimp only at hSw); go_simp; (try with_reducible rfl))
          simp only [Act.put, List.setIfInBounds_toArray, List.set_cons_zero, List.set_cons_succ]
          refine take_one (i := 2) (d := 58) (oi := ?_) (v := ?_) ?_ (by kernel_rfl) (by kernel_rfl) (by kernel_rfl) (fun _ _ _ h => h) ?_ ?_ ?_ (by assumption) ?_
          case refine_3 => (simp only [List.getElem?_toArray, List.getElem?_cons_succ, List.getElem?_cons_zero]; rfl)
          case refine_4 => rfl
          case refine_5 => rfl
          case refine_6 => (intro w' hSw; (try dsimp only at hSw); go_simp; (try with_reducible rfl))
          simp only [Act.put, List.setIfInBounds_toArray, List.set_cons_zero, List.set_cons_succ]
          refine take_one (i := 3) (d := 59) (oi := ?_) (v := ?_) ?_ (by kernel_rfl) (by kernel_rfl) (by kernel_rfl) (fun _ _ _ h => h) ?_ ?_ ?_ (by assumption) ?_
          case refine_3 => (simp only [List.getElem?_toArray, List.getElem?_cons_succ, List.getElem?_cons_zero]; rfl)
          case refine_4 => rfl
          case refine_5 => rfl
          case refine_6 => (intro w' hSw; (try dsimp only at hSw); go_simp; (try with_reducible rfl))
          simp only [Act.put, List.setIfInBounds_toArray, List.set_cons_zero, List.set_cons_succ]
          refine take_one (i := 4) (d := 60) (oi := ?_) (v := ?_) ?_ (by kernel_rfl) (by kernel_rfl) (by kernel_rfl) (fun _ _ _ h => h) ?_ ?_ ?_ (by assumption) ?_
          case refine_3 => (simp only [List.getElem?_toArray, List.getElem?_cons_succ, List.getElem?_cons_zero]; rfl)
          case refine_4 => rfl
          case refine_5 => rfl
          case refine_6 => (intro w' hSw; (try dsimp only at hSw); go_simp; (try with_reducible rfl))
          simp only [Act.put, List.setIfInBounds_toArray, List.set_cons_zero, List.set_cons_succ]
          refine take_one (i := 5) (d := 61) (oi := ?_) (v := ?_) ?_ (by kernel_rfl) (by kernel_rfl) (by kernel_rfl) (fun _ _ _ h => h) ?_ ?_ ?_ (by assumption) ?_
          case refine_3 => (simp only [List.getElem?_toArray, List.getElem?_cons_succ, List.getElem?_cons_zero]; rfl)
          case refine_4 => rfl
          case refine_5 => rfl
          case refine_6 => (intro w' hSw; (try dsimp only at hSw); go_simp; (try with_reducible rfl))
          simp only [Act.put, List.setIfInBounds_toArray, List.set_cons_zero, List.set_cons_succ]
          refine take_one (i := 6) (d := 62) (oi := ?_) (v := ?_) ?_ (by kernel_rfl) (by kernel_rfl) (by kernel_rfl) (fun _ _ _ h => h) ?_ ?_ ?_ (by assumption) ?_
          case refine_3 => (simp only [List.getElem?_toArray, List.getElem?_cons_succ, List.getElem?_cons_zero]; rfl)
          case refine_4 => rfl
          case refine_5 => rfl
          case refine_6 => (intro w' hSw; (try dsimp only at hSw); go_simp; (try with_reducible rfl))
          simp only [Act.put, List.setIfInBounds_toArray, List.set_cons_zero, List.set_cons_succ]
          refine take_one (i := 7) (d := 63) (oi := ?_) (v := ?_) ?_ (by kernel_rfl) (by kernel_rfl) (by kernel_rfl) (fun _ _ _ h => h) ?_ ?_ ?_ (by assumption) ?_
          case refine_3 => (simp only [List.getElem?_toArray, List.getElem?_cons_succ, List.getElem?_cons_zero]; rfl)
          case refine_4 => rfl
          case refine_5 => rfl
          case refine_6 => (intro w' hSw; (try dsimp only at hSw); go_simp; (try with_reducible rfl))
          simp only [Act.put, List.setIfInBounds_toArray, List.set_cons_zero, List.set_cons_succ]
          refine take_one (i := 8) (d := 64) (oi := ?_) (v := ?_) ?_ (by kernel_rfl) (by kernel_rfl) (by kernel_rfl) (fun _ _ _ h => h) ?_ ?_ ?_ (by assumption) ?_
          case refine_3 => (simp only [List.getElem?_toArray, List.getElem?_cons_succ, List.getElem?_cons_zero]; rfl)
          case refine_4 => rfl
          case refine_5 => rfl
          case refine_6 => (intro w' hSw; (try dsimp only at hSw); go_simp; (try with_reducible rfl))
          simp only [Act.put, List.setIfInBounds_toArray, List.set_cons_zero, List.set_cons_succ]
          refine take_one (i := 9) (d := 65) (oi := ?_) (v := ?_) ?_ (by kernel_rfl) (by kernel_rfl) (by kernel_rfl) (fun _ _ _ h => h) ?_ ?_ ?_ (by assumption) ?_
          case refine_3 => (simp only [List.getElem?_toArray, List.getElem?_cons_succ, List.getElem?_cons_zero]; rfl)
          case refine_4 => rfl
          case refine_5 => rfl
          case refine_6 => (intro w' hSw; (try dsimp only at hSw); go_simp; (try with_reducible rfl))
          simp only [Act.put, List.setIfInBounds_toArray, List.set_cons_zero, List.set_cons_succ]
          refine take_one (i := 10) (d := 66) (oi := ?_) (v := ?_) ?_ (by kernel_rfl) (by kernel_rfl) (by kernel_rfl) (fun _ _ _ h => h) ?_ ?_ ?_ (by assumption) ?_
          case refine_3 => (simp only [List.getElem?_toArray, List.getElem?_cons_succ, List.getElem?_cons_zero]; rfl)
          case refine_4 => rfl
          case refine_5 => rfl
          case refine_6 => (intro w' hSw; (try dsimp only at hSw); go_simp; (try with_reducible rfl))
          simp only [Act.put, List.setIfInBounds_toArray, List.set_cons_zero, List.set_cons_succ]
          refine take_one (i := 11) (d := 67) (oi := ?_) (v := ?_) ?_ (by kernel_rfl) (by kernel_rfl) (by kernel_rfl) (fun _ _ _ h => h) ?_ ?_ ?_ (by assumption) ?_
          case refine_3 => (simp only [List.getElem?_toArray, List.getElem?_cons_succ, List.getElem?_cons_zero]; rfl)
          case refine_4 => rfl
          case refine_5 => rfl
          case refine_6 => (intro w' hSw; (try dsimp only at hSw); go_simp; (try with_reducible rfl))
          simp only [Act.put, List.setIfInBounds_toArray, List.set_cons_zero, List.set_cons_succ]
          refine take_one (i := 12) (d := 68) (oi := ?_) (v := ?_) ?_ (by kernel_rfl) (by kernel_rfl) (by kernel_rfl) (fun _ _ _ h => h) ?_ ?_ ?_ (by assumption) ?_
          case refine_3 => (simp only [List.getElem?_toArray, List.getElem?_cons_succ, List.getElem?_cons_zero]; rfl)
          case refine_4 => rfl
          case refine_5 => rfl
          case refine_6 => (intro w' hSw; (try dsimp only at hSw); go_simp; (try with_reducible rfl))
          simp only [Act.put, List.setIfInBounds_toArray, List.set_cons_zero, List.set_cons_succ]
          refine take_one (i := 13) (d := 69) (oi := ?_) (v := ?_) ?_ (by kernel_rfl) (by kernel_rfl) (by kernel_rfl) (fun _ _ _ h => h) ?_ ?_ ?_ (by assumption) ?_
          case refine_3 => (simp only [List.getElem?_toArray, List.getElem?_cons_succ, List.getElem?_cons_zero]; rfl)
          case refine_4 => rfl
          case refine_5 => rfl
          case refine_6 => (intro w' hSw; (try dsimp only at hSw); go_simp; (try with_reducible rfl))
          simp only [Act.put, List.setIfInBounds_toArray, List.set_cons_zero, List.set_cons_succ]
          refine take_one (i := 14) (d := 70) (oi := ?_) (v := ?_) ?_ (by kernel_rfl) (by kernel_rfl) (by kernel_rfl) (fun _ _ _ h => h) ?_ ?_ ?_ (by assumption) ?_
          case refine_3 => (simp only [List.getElem?_toArray, List.getElem?_cons_succ, List.getElem?_cons_zero]; rfl)
          case refine_4 => rfl
          case refine_5 => rfl
          case refine_6 => (intro w' hSw; (try dsimp only at hSw); go_simp; (try with_reducible rfl))
          simp only [Act.put, List.setIfInBounds_toArray, List.set_cons_zero, List.set_cons_succ]
          refine take_one (i := 15) (d := 71) (oi := ?_) (v := ?_) ?_ (by kernel_rfl) (by kernel_rfl) (by kernel_rfl) (fun _ _ _ h => h) ?_ ?_ ?_ (by assumption) ?_
          case refine_3 => (simp only [List.getElem?_toArray, List.getElem?_cons_succ, List.getElem?_cons_zero]; rfl)
          case refine_4 => rfl
          case refine_5 => rfl
          case refine_6 => (intro w' hSw; (try dsimp only at hSw); go_simp; (try with_reducible rfl))
          simp only [Act.put, List.setIfInBounds_toArray, List.set_cons_zero, List.set_cons_succ]
          refine take_one (i := 16) (d := 72) (oi := ?_) (v := ?_) ?_ (by kernel_rfl) (by kernel_rfl) (by kernel_rfl) (fun _ _ _ h => h) ?_ ?_ ?_ (by assumption) ?_
          case refine_3 => (simp only [List.getElem?_toArray, List.getElem?_cons_succ, List.getElem?_cons_zero]; rfl)
          case refine_4 => rfl
          case refine_5 => rfl
          case refine_6 => (intro w' hSw; (try dsimp only at hSw); go_simp; (try with_reducible rfl))
          simp only [Act.put, List.setIfInBounds_toArray, List.set_cons_zero, List.set_cons_succ]
          refine take_one (i := 17) (d := 73) (oi := ?_) (v := ?_) ?_ (by kernel_rfl) (by kernel_rfl) (by kernel_rfl) (fun _ _ _ h => h) ?_ ?_ ?_ (by assumption) ?_
          case refine_3 => (simp only [List.getElem?_toArray, List.getElem?_cons_succ, List.getElem?_cons_zero]; rfl)
          case refine_4 => rfl
          case refine_5 => rfl
          case refine_6 => (intro w' hSw; (try dsimp only at hSw); go_simp; (try with_reducible rfl))
          simp only [Act.put, List.setIfInBounds_toArray, List.set_cons_zero, List.set_cons_succ]
          refine take_one (i := 18) (d := 74) (oi := ?_) (v := ?_) ?_ (by kernel_rfl) (by kernel_rfl) (by kernel_rfl) (fun _ _ _ h => h) ?_ ?_ ?_ (by assumption) ?_
          case refine_3 => (simp only [List.getElem?_toArray, List.getElem?_cons_succ, List.getElem?_cons_zero]; rfl)
          case refine_4 => rfl
          case refine_5 => rfl
          case refine_6 => (intro w' hSw; (try dsimp only at hSw); go_simp; (try with_reducible rfl))
          simp only [Act.put, List.setIfInBounds_toArray, List.set_cons_zero, List.set_cons_succ]
          refine take_one (i := 19) (d := 75) (oi := ?_) (v := ?_) ?_ (by kernel_rfl) (by kernel_rfl) (by kernel_rfl) (fun _ _ _ h => h) ?_ ?_ ?_ (by assumption) ?_
          case refine_3 => (simp only [List.getElem?_toArray, List.getElem?_cons_succ, List.getElem?_cons_zero]; rfl)
          case refine_4 => rfl
          case refine_5 => rfl
          case refine_6 => (intro w' hSw; (try dsimp only at hSw); go_simp; (try with_reducible rfl))
          simp only [Act.put, List.setIfInBounds_toArray, List.set_cons_zero, List.set_cons_succ]
          refine take_one (i := 20) (d := 76) (oi := ?_) (v := ?_) ?_ (by kernel_rfl) (by kernel_rfl) (by kernel_rfl) (fun _ _ _ h => h) ?_ ?_ ?_ (by assumption) ?_
          case refine_3 => (simp only [List.getElem?_toArray, List.getElem?_cons_succ, List.getElem?_cons_zero]; rfl)
          case refine_4 => rfl
          case refine_5 => rfl
          case refine_6 => (intro w' hSw; (try dsimp only at hSw); go_simp; (try with_reducible rfl))
          simp only [Act.put, List.setIfInBounds_toArray, List.set_cons_zero, List.set_cons_succ]
          refine take_one (i := 21) (d := 77) (oi := ?_) (v := ?_) ?_ (by kernel_rfl) (by kernel_rfl) (by kernel_rfl) (fun _ _ _ h => h) ?_ ?_ ?_ (by assumption) ?_
          case refine_3 => (simp only [List.getElem?_toArray, List.getElem?_cons_succ, List.getElem?_cons_zero]; rfl)
          case refine_4 => rfl
          case refine_5 => rfl
          case refine_6 => (intro w' hSw; (try dsimp only at hSw); go_simp; (try with_reducible rfl))
          simp only [Act.put, List.setIfInBounds_toArray, List.set_cons_zero, List.set_cons_succ]
          refine take_one (i := 22) (d := 78) (oi := ?_) (v := ?_) ?_ (by kernel_rfl) (by kernel_rfl) (by kernel_rfl) (fun _ _ _ h => h) ?_ ?_ ?_ (by assumption) ?_
          case refine_3 => (simp only [List.getElem?_toArray, List.getElem?_cons_succ, List.getElem?_cons_zero]; rfl)
          case refine_4 => rfl
          case refine_5 => rfl
          case refine_6 => (intro w' hSw; (try dsimp only at hSw); go_simp; (try with_reducible rfl))
          simp only [Act.put, List.setIfInBounds_toArray, List.set_cons_zero, List.set_cons_succ]
          refine take_one (i := 23) (d := 79) (oi := ?_) (v := ?_) ?_ (by kernel_rfl) (by kernel_rfl) (by kernel_rfl) (fun _ _ _ h => h) ?_ ?_ ?_ (by assumption) ?_
          case refine_3 => (simp only [List.getElem?_toArray, List.getElem?_cons_succ, List.getElem?_cons_zero]; rfl)
          case refine_4 => rfl
          case refine_5 => rfl
          case refine_6 => (intro w' hSw; (try dsimp only at hSw); go_simp; (try with_reducible rfl))
          simp only [Act.put, List.setIfInBounds_toArray, List.set_cons_zero, List.set_cons_succ]
          refine take_one (i := 24) (d := 80) (oi := ?_) (v := ?_) ?_ (by kernel_rfl) (by kernel_rfl) (by kernel_rfl) (fun _ _ _ h => h) ?_ ?_ ?_ (by assumption) ?_
          case refine_3 => (simp only [List.getElem?_toArray, List.getElem?_cons_succ, List.getElem?_cons_zero]; rfl)
          case refine_4 => rfl
          case refine_5 => rfl
          case refine_6 => (intro w' hSw; (try dsimp only at hSw); go_simp; (try with_reducible rfl))
          simp only [Act.put, List.setIfInBounds_toArray, List.set_cons_zero, List.set_cons_succ]
          refine take_one (i := 25) (d := 81) (oi := ?_) (v := ?_) ?_ (by kernel_rfl) (by kernel_rfl) (by kernel_rfl) (fun _ _ _ h => h) ?_ ?_ ?_ (by assumption) ?_
          case refine_3 => (simp only [List.getElem?_toArray, List.getElem?_cons_succ, List.getElem?_cons_zero]; rfl)
          case refine_4 => rfl
          case refine_5 => rfl
          case refine_6 => (intro w' hSw; (try dsimp only at hSw); go_simp; (try with_reducible rfl))
          simp only [Act.put, List.setIfInBounds_toArray, List.set_cons_zero, List.set_cons_succ]
          refine wpAnyH_ready (rs := [26]) (by kernel_rfl) (by simp) ?_
          refine AllReadyH.cons (o := ?_) ?_ (fun K hK => ?_) AllReadyH.nil
          case refine_2 => (simp only [List.getElem?_toArray, List.getElem?_cons_succ, List.getElem?_cons_zero]; rfl)
          go_simp
          (go_at_call 20; (with_reducible refine (HCT.out _ _ _ xs (HC.out _ (on_new HO.out HOZ.out)).1 (HC.out _ (on_new HO.out HOZ.out)).2).mono ?_); rintro e w3 ⟨rfl, ho⟩; (replace HOZ := Lib.hid (on_new HOZ.out ho)); (replace HOW := Lib.hid (on_new HOW.out ho)); clear ho)
          go_wp2_with (fail)
          refine hK.out _ _ (KP.out _ HOZ.out) (fun hHeld => ?_)
          clear hK K
          try simp only [Act.put, List.setIfInBounds_toArray, List.set_cons_zero, List.set_cons_succ]
          refine take_one (i := 27) (d := 83) (oi := ?_) (v := ?_) ?_ (by kernel_rfl) (by kernel_rfl) (by kernel_rfl) (fun _ _ _ h => h) ?_ ?_ ?_ (by assumption) ?_
          case refine_3 => (simp only [List.getElem?_toArray, List.getElem?_cons_succ, List.getElem?_cons_zero]; rfl)
          case refine_4 => rfl
          case refine_5 => rfl
          case refine_6 => (intro w' hSw; (try dsimp only at hSw); go_simp; (try with_reducible rfl))
          simp only [Act.put, List.setIfInBounds_toArray, List.set_cons_zero, List.set_cons_succ]
          refine take_one (i := 28) (d := 84) (oi := ?_) (v := ?_) ?_ (by kernel_rfl) (by kernel_rfl) (by kernel_rfl) (fun _ _ _ h => h) ?_ ?_ ?_ (by assumption) ?_
          case refine_3 => (simp only [List.getElem?_toArray, List.getElem?_cons_succ, List.getElem?_cons_zero]; rfl)
          case refine_4 => rfl
          case refine_5 => rfl
          case refine_6 => (intro w' hSw; (try dsimp only at hSw); go_simp; (try with_reducible rfl))
          simp only [Act.put, List.setIfInBounds_toArray, List.set_cons_zero, List.set_cons_succ]
          refine wpAnyH_done (by kernel_rfl) ?_ _
          clear x1 x2 x3 x4 x5 x6
          go_wp2
          go_roundw
          case rel => exact ⟨k + 1, by omega, by go_num, HOX.out.trans (HOW.out.mono fun k h => Nat.le_trans HOX.out.size h)⟩
          case measure => simp [intOf]; omega
        · obtain rfl : m = k := by omega
          have hkm : ¬ (m : Int) < (m : Int) := by omega
          obtain ⟨i0, i1, i2⟩ := (HI.out.later ho).tri
          obtain ⟨k0, k1, k2⟩ := (HJ.out.later ho).tri
          clear ho
          go_wp2
          go_ret
          exact ⟨rfl, HOR2.out⟩
end Go.Proofs.Ytdpdlhfjemehcaa
