/-
  Metas: Decode.
-/
import Derived.Test.YtopaponemjaenaaDoorMrd
import Derived.Test.YtopaponemjaenaaDoorGa
import Derived.Lib.SmallJoins
set_option linter.unusedVariables false
namespace Go.Proofs.YtopaponemjaenaaDoor
open Go.RowKit

theorem HasPrefix_q (w : World) (bl o n c : Nat) (B : Option Addr) (m k : Nat) (xs ys : Bytes) (h1 : Src w (.slice (some ⟨bl, o, none⟩) n c) xs) (h2 : Src w (.slice B m k) ys) (hm : m ≤ n) (q : Bool) (hq : decide (xs.take m = ys) = q) :
    Calls Tryd.prog 89 #[.slice (some ⟨bl, o, none⟩) n c, .slice B m k] w fun e w' => e = .returned (.bool q) ∧ w = w' := by
  have hn : n = xs.length := by
    obtain ⟨A', c', hv, _⟩ := h1
    injection hv
  have HT1 : Hid (Src w (.slice (some ⟨bl, o, none⟩) m c) (xs.take m)) := by
    obtain ⟨A', c', hv, ht, h3, h4, h5⟩ := h1
    injection hv with e1 e2 e3
    subst e1 e3
    refine Lib.hid ⟨_, c, by rw [List.length_take, Nat.min_eq_left (by omega)], ?_, h3, by rw [List.length_take]; omega, h5⟩
    have := ht.take m (by omega)
    rwa [List.length_take, Nat.min_eq_left (by omega)]
  have HT2 := Lib.hid h2
  have hnc : n ≤ c := by
    obtain ⟨A', c', hv, _, _, h4, _⟩ := h1
    injection hv with e1 e2 e3
    subst e3
    omega
  have i1 : (m : Int) ≤ (n : Int) := by omega
  have i2 : (m : Int) ≤ (c : Int) := by omega
  have i3 : (0 : Int) ≤ (m : Int) := by omega
  have HQ := Lib.hid hq
  clear h1 h2 hn hq
  go_enter Tryd.func89, Tryd.ntmps89
  go_wp2_with (go_at_call 30; (with_reducible refine (Equal_b _ _ _ _ ys q HT1.out HT2.out HQ.out).mono ?_); rintro e w' ⟨rfl, rfl⟩)
  go_ret
  exact ⟨rfl, rfl⟩
theorem src_tail4_at (w : World) (o : Obj) : Src ((w.alloc o).alloc (.cells #[.int .u8 85, .int .u8 65, .int .u8 71, .int .u8 82] 5 (4, 5))) (.slice (some ⟨w.heap.size + 1, 0, none⟩) 4 4) tail4 := by
  have h := src_tail4 (w.alloc o)
  simpa using h
/-- Has it both marks? -/
def markedB (b : Bytes) : Bool := decide (b.length = 256) && (decide (b.take 4 = mark4) && decide ((b.drop 248).take 4 = tail4))
set_option maxRecDepth 100000 in
set_option maxHeartbeats 3200000 in
theorem marked_len (w : World) (A : Option Addr) (n c : Nat) (h : n ≠ 256) : Calls Tryd.prog 77 #[.slice A n c] w (Told w (.bool false)) := by
  have hb : ((n : Int) == 256) = false := by rw [beq_eq_false_iff_ne]; omega
  go_enter Tryd.func77, Tryd.ntmps77
  go_wp2
  go_ret
  exact ⟨rfl, Only.refl _ _⟩
set_option maxRecDepth 100000 in
set_option maxHeartbeats 3200000 in
theorem marked_go (w : World) (bl o c : Nat) (b : Bytes) (hs : Src w (.slice (some ⟨bl, o, none⟩) 256 c) b) (hc : 256 ≤ c) (q1 q2 : Bool) (h1 : decide (b.take 4 = mark4) = q1) (h2 : decide ((b.drop 248).take 4 = tail4) = q2) : Calls Tryd.prog 77 #[.slice (some ⟨bl, o, none⟩) 256 c] w (Told w (.bool (q1 && q2))) := by
  have HSA : Hid (∀ W, Only (w.heap.size ≤ ·) w W → Src W (.slice (some ⟨bl, o, none⟩) 256 c) b) := Lib.hid fun W hW => hs.later hW
  have HSB : Hid (∀ W, Only (w.heap.size ≤ ·) w W → Src W (.slice (some ⟨bl, o + 248, none⟩) 8 (c - 248)) (b.drop 248)) := Lib.hid fun W hW => by
    have h := src_part (hs.later hW) (a := 248) (z := 256) (by omega) (by omega)
    have hl : b.length = 256 := by obtain ⟨A', c', e, _⟩ := hs; injection e with _ e2 _; exact e2.symm
    rwa [show (b.drop 248).take (256 - 248) = b.drop 248 from List.take_of_length_le (by rw [List.length_drop]; omega)] at h
  have HO : Hid (Only (w.heap.size ≤ ·) w w) := Lib.hid (Only.refl _ w)
  have HQ1 := Lib.hid h1
  have HQ2 := Lib.hid h2
  have y1 : (256 : Int) ≤ (c : Int) := by omega
  have y2 : ¬ c = 248 := by omega
  have y3 : 248 ≤ c := by omega
  have kc1 := fun (w : World) => Lib.run_convert_bytes_const (P := Tryd.prog) w 23 5 #[.int .u8 82, .int .u8 71, .int .u8 65, .int .u8 85] 4 4 Tryd.underlying23 Tryd.underlying5
  have kc2 := fun (w : World) (o : Obj) => Joins.run_convert_bytes_const_at (P := Tryd.prog) (w.alloc o) 23 5 #[.int .u8 85, .int .u8 65, .int .u8 71, .int .u8 82] 4 4 (w.heap.size + 1) (by simp) Tryd.underlying23 Tryd.underlying5
  clear hs h1 h2
  cases q1
  · rw [Bool.false_and]
    go_enter Tryd.func77, Tryd.ntmps77
    go_wp2_with (go_at_call 89; (with_reducible refine (HasPrefix_q _ _ _ _ _ _ _ _ _ mark4 (HSA.out _ (HO.out.alloc (fun _ h => h) _)) (src_mark4 _) (by decide) _ HQ1.out).mono ?_); rintro ee w2 ⟨rfl, rfl⟩; (replace HO := Lib.hid (HO.out.alloc (fun _ h => h) (.cells #[.int .u8 82, .int .u8 71, .int .u8 65, .int .u8 85] 5 (4, 5)))))
    go_ret
    exact ⟨rfl, HO.out⟩
  · rw [Bool.true_and]
    go_enter Tryd.func77, Tryd.ntmps77
    go_wp2_with (first
      | (go_at_call 89; (with_reducible refine (HasPrefix_q _ _ _ _ _ _ _ _ _ mark4 (HSA.out _ (HO.out.alloc (fun _ h => h) _)) (src_mark4 _) (by decide) _ HQ1.out).mono ?_); rintro ee w2 ⟨rfl, rfl⟩; (replace HO := Lib.hid (HO.out.alloc (fun _ h => h) (.cells #[.int .u8 82, .int .u8 71, .int .u8 65, .int .u8 85] 5 (4, 5)))))
      | (go_at_call 89; (with_reducible refine (HasPrefix_q _ _ _ _ _ _ _ _ _ tail4 (HSB.out _ (HO.out.alloc (fun _ h => h) _)) (src_tail4_at _ _) (by decide) _ HQ2.out).mono ?_); rintro ee w2 ⟨rfl, rfl⟩; (replace HO := Lib.hid (HO.out.alloc (fun _ h => h) (.cells #[.int .u8 85, .int .u8 65, .int .u8 71, .int .u8 82] 5 (4, 5))))))
    go_ret
    exact ⟨rfl, HO.out⟩
theorem Mmarked_c (w : World) (v : Value) (b : Bytes) (hs : Src w v b) : Calls Tryd.prog 77 #[v] w (Told w (.bool (markedB b))) := by
  obtain ⟨A, c, rfl, ht, _, hc, _⟩ := id hs
  unfold markedB
  by_cases hl : b.length = 256
  · obtain ⟨bl, o, rfl⟩ : ∃ bl o, A = some ⟨bl, o, none⟩ := by
      obtain ⟨ad, ea, hcell⟩ := ht.2 (by omega)
      have e0 := ht.src ad ea 0 (.int .u8 (b[0]'(by omega)).toNat) (by unfold cb; rw [List.getElem?_map, List.getElem?_eq_getElem (by omega)]; rfl)
      have ee : ad.add 0 = ad := by cases ad; simp [Addr.add]
      rw [ee] at e0
      exact ⟨_, _, ea.trans (congrArg some (spotF e0))⟩
    rw [decide_eq_true hl, Bool.true_and]
    rw [hl] at hs hc ⊢
    exact marked_go w bl o c b hs hc _ _ rfl rfl
  · rw [decide_eq_false hl, Bool.false_and]
    exact marked_len w A _ c hl
theorem Sealed_t (w : World) (v : Value) (xs : Bytes) (h : Src w v xs) (hn : xs.length ≤ 65536) : Calls Tryd.prog 78 #[v, .int .i64 252] w (Told w (.bool (isSealed xs 252))) := by
  obtain ⟨A, c, rfl, ht, hA, hc, hm⟩ := h
  exact Sealed_c w A xs.length c xs ht (fun e => ⟨by have := hA e; omega, hA e⟩) (by omega) hc hm 252 (by decide) (by decide)
/-- A meta came back, and an error. -/
def GaveME (w : World) (M : List Int) (xs : Bytes) (z : Int) (e : Ending) (w' : World) : Prop := ∃ (g ph t x r p l : Int) (A : Option Addr) (n c : Nat), M = [g, ph, t, x, r, p, l] ∧ n = xs.length ∧ e = .returned (.tuple #[.agg #[.int .i64 g, .int .i64 ph, .int .i64 t, .int .i64 x, .int .i64 r, .int .i64 p, .int .i64 l, .slice A n c], .int .i64 z]) ∧ New w' w.heap.size (.slice A n c) xs ∧ Only (w.heap.size ≤ ·) w w'
section
variable (w : World) (A : Option Addr) (n c : Nat)
set_option maxRecDepth 100000 in
set_option maxHeartbeats 3200000 in
theorem dec_90 (hMA : ∀ W, Only (w.heap.size ≤ ·) w W → Calls Tryd.prog 77 #[.slice A n c] W (Told W (.bool false))) : Calls Tryd.prog 60 #[.slice A n c] w (GaveME w [0, 0, 0, 0, 0, 0, 0] [] 90) := by
  obtain ⟨w1, hw1⟩ : ∃ W0, W0 = w.alloc (.cells #[.int .i64 0, .int .i64 0, .int .i64 0, .int .i64 0, .int .i64 0, .int .i64 0, .int .i64 0, .slice none 0 0] 36) := ⟨_, rfl⟩
  have HO : Hid (Only (w.heap.size ≤ ·) w w1) := Lib.hid (by rw [hw1]; exact (Only.refl _ w).alloc (fun _ h => h) _)
  have HR : Hid (Blk w1 w.heap.size 36 [.int .i64 0, .int .i64 0, .int .i64 0, .int .i64 0, .int .i64 0, .int .i64 0, .int .i64 0, .slice none 0 0]) := Lib.hid (by rw [hw1]; exact Blk.new w 36 _)
  have HMA := Lib.hid hMA
  clear hMA
  go_enter Tryd.func60, Tryd.ntmps60
  go_upto_region 1 with (fail)
  rw [← hw1]
  clear hw1
  go_upto_region 2 with (go_at_call 77; (with_reducible refine (HMA.out _ HO.out).mono ?_); rintro ee w2 ⟨rfl, ho⟩; (replace HR := Lib.hid (HR.out.later ho)); (replace HO := Lib.hid (on_new HO.out ho)); clear ho)
  obtain ⟨r0, r1, r2, r3, r4, r5, r6, r7⟩ := HR.out.eight
  have z0 := HR.out.frozen 0
  have z1 := HR.out.frozen 1
  have z2 := HR.out.frozen 2
  have z3 := HR.out.frozen 3
  have z4 := HR.out.frozen 4
  have z5 := HR.out.frozen 5
  have z6 := HR.out.frozen 6
  have z7 := HR.out.frozen 7
  go_wp2
  refine bodyPost_ret (results_cell_tmp rfl rfl (load_meta ((((((((HR.out.set_ 0 (.int .i64 0)).set_ 1 (.int .i64 0)).set_ 2 (.int .i64 0)).set_ 3 (.int .i64 0)).set_ 4 (.int .i64 0)).set_ 5 (.int .i64 0)).set_ 6 (.int .i64 0)).set_ 7 (.slice none 0 0)))) rfl ?_
  exact ⟨0, 0, 0, 0, 0, 0, 0, none, 0, 0, rfl, rfl, rfl, New.nil_ _ _, ((((((((HO.out.setCell (p := ⟨w.heap.size, 0, none⟩) (Nat.le_refl _) (.int .i64 0)).setCell (p := ⟨w.heap.size, 1, none⟩) (Nat.le_refl _) (.int .i64 0)).setCell (p := ⟨w.heap.size, 2, none⟩) (Nat.le_refl _) (.int .i64 0)).setCell (p := ⟨w.heap.size, 3, none⟩) (Nat.le_refl _) (.int .i64 0)).setCell (p := ⟨w.heap.size, 4, none⟩) (Nat.le_refl _) (.int .i64 0)).setCell (p := ⟨w.heap.size, 5, none⟩) (Nat.le_refl _) (.int .i64 0)).setCell (p := ⟨w.heap.size, 6, none⟩) (Nat.le_refl _) (.int .i64 0)).setCell (p := ⟨w.heap.size, 7, none⟩) (Nat.le_refl _) (.slice none 0 0))⟩
set_option maxRecDepth 100000 in
set_option maxHeartbeats 3200000 in
theorem dec_91 (hMA : ∀ W, Only (w.heap.size ≤ ·) w W → Calls Tryd.prog 77 #[.slice A n c] W (Told W (.bool true))) (hSE : ∀ W, Only (w.heap.size ≤ ·) w W → Calls Tryd.prog 78 #[.slice A n c, .int .i64 252] W (Told W (.bool false))) : Calls Tryd.prog 60 #[.slice A n c] w (GaveME w [0, 0, 0, 0, 0, 0, 0] [] 91) := by
  obtain ⟨w1, hw1⟩ : ∃ W0, W0 = w.alloc (.cells #[.int .i64 0, .int .i64 0, .int .i64 0, .int .i64 0, .int .i64 0, .int .i64 0, .int .i64 0, .slice none 0 0] 36) := ⟨_, rfl⟩
  have HO : Hid (Only (w.heap.size ≤ ·) w w1) := Lib.hid (by rw [hw1]; exact (Only.refl _ w).alloc (fun _ h => h) _)
  have HR : Hid (Blk w1 w.heap.size 36 [.int .i64 0, .int .i64 0, .int .i64 0, .int .i64 0, .int .i64 0, .int .i64 0, .int .i64 0, .slice none 0 0]) := Lib.hid (by rw [hw1]; exact Blk.new w 36 _)
  have HMA := Lib.hid hMA
  have HSE := Lib.hid hSE
  clear hMA hSE
  go_enter Tryd.func60, Tryd.ntmps60
  go_upto_region 1 with (fail)
  rw [← hw1]
  clear hw1
  go_upto_region 4 with (first
    | (go_at_call 77; (with_reducible refine (HMA.out _ HO.out).mono ?_); rintro ee w2 ⟨rfl, ho⟩; (replace HR := Lib.hid (HR.out.later ho)); (replace HO := Lib.hid (on_new HO.out ho)); clear ho)
    | (go_at_call 78; (with_reducible refine (HSE.out _ HO.out).mono ?_); rintro ee w2 ⟨rfl, ho⟩; (replace HR := Lib.hid (HR.out.later ho)); (replace HO := Lib.hid (on_new HO.out ho)); clear ho))
  obtain ⟨r0, r1, r2, r3, r4, r5, r6, r7⟩ := HR.out.eight
  have z0 := HR.out.frozen 0
  have z1 := HR.out.frozen 1
  have z2 := HR.out.frozen 2
  have z3 := HR.out.frozen 3
  have z4 := HR.out.frozen 4
  have z5 := HR.out.frozen 5
  have z6 := HR.out.frozen 6
  have z7 := HR.out.frozen 7
  go_wp2
  refine bodyPost_ret (results_cell_tmp rfl rfl (load_meta ((((((((HR.out.set_ 0 (.int .i64 0)).set_ 1 (.int .i64 0)).set_ 2 (.int .i64 0)).set_ 3 (.int .i64 0)).set_ 4 (.int .i64 0)).set_ 5 (.int .i64 0)).set_ 6 (.int .i64 0)).set_ 7 (.slice none 0 0)))) rfl ?_
  exact ⟨0, 0, 0, 0, 0, 0, 0, none, 0, 0, rfl, rfl, rfl, New.nil_ _ _, ((((((((HO.out.setCell (p := ⟨w.heap.size, 0, none⟩) (Nat.le_refl _) (.int .i64 0)).setCell (p := ⟨w.heap.size, 1, none⟩) (Nat.le_refl _) (.int .i64 0)).setCell (p := ⟨w.heap.size, 2, none⟩) (Nat.le_refl _) (.int .i64 0)).setCell (p := ⟨w.heap.size, 3, none⟩) (Nat.le_refl _) (.int .i64 0)).setCell (p := ⟨w.heap.size, 4, none⟩) (Nat.le_refl _) (.int .i64 0)).setCell (p := ⟨w.heap.size, 5, none⟩) (Nat.le_refl _) (.int .i64 0)).setCell (p := ⟨w.heap.size, 6, none⟩) (Nat.le_refl _) (.int .i64 0)).setCell (p := ⟨w.heap.size, 7, none⟩) (Nat.le_refl _) (.slice none 0 0))⟩
set_option maxRecDepth 100000 in
set_option maxHeartbeats 6400000 in
theorem dec_93 (hMA : ∀ W, Only (w.heap.size ≤ ·) w W → Calls Tryd.prog 77 #[.slice A n c] W (Told W (.bool true))) (hSE : ∀ W, Only (w.heap.size ≤ ·) w W → Calls Tryd.prog 78 #[.slice A n c, .int .i64 252] W (Told W (.bool true))) (M : List Int) (xs : Bytes) (hRE : ∀ W, Only (w.heap.size ≤ ·) w W → Calls Tryd.prog 79 #[.slice A n c] W (GaveMt W M xs)) (hb : gen (M.getD 0 0) = false ∨ (gen (M.getD 0 0) = true ∧ 3 < M.getD 2 0)) : Calls Tryd.prog 60 #[.slice A n c] w (GaveME w [0, 0, 0, 0, 0, 0, 0] [] 93) := by
  obtain ⟨w1, hw1⟩ : ∃ W0, W0 = w.alloc (.cells #[.int .i64 0, .int .i64 0, .int .i64 0, .int .i64 0, .int .i64 0, .int .i64 0, .int .i64 0, .slice none 0 0] 36) := ⟨_, rfl⟩
  have HO : Hid (Only (w.heap.size ≤ ·) w w1) := Lib.hid (by rw [hw1]; exact (Only.refl _ w).alloc (fun _ h => h) _)
  have HR : Hid (Blk w1 w.heap.size 36 [.int .i64 0, .int .i64 0, .int .i64 0, .int .i64 0, .int .i64 0, .int .i64 0, .int .i64 0, .slice none 0 0]) := Lib.hid (by rw [hw1]; exact Blk.new w 36 _)
  have HMA := Lib.hid hMA
  have HSE := Lib.hid hSE
  have HRE := Lib.hid hRE
  have HBD := Lib.hid hb
  clear hMA hSE hRE hb
  go_enter Tryd.func60, Tryd.ntmps60
  go_upto_region 1 with (fail)
  rw [← hw1]
  clear hw1
  go_upto_region 6 with (first
    | (go_at_call 77; (with_reducible refine (HMA.out _ HO.out).mono ?_); rintro ee w2 ⟨rfl, ho⟩; (replace HR := Lib.hid (HR.out.later ho)); (replace HO := Lib.hid (on_new HO.out ho)); clear ho)
    | (go_at_call 78; (with_reducible refine (HSE.out _ HO.out).mono ?_); rintro ee w2 ⟨rfl, ho⟩; (replace HR := Lib.hid (HR.out.later ho)); (replace HO := Lib.hid (on_new HO.out ho)); clear ho)
    | (go_at_call 79; (with_reducible refine (HRE.out _ HO.out).mono ?_); rintro ee w3 ⟨g, ph, t, x, r, p, l, A2, n2, c2, hM, hn2, rfl, hnw, ho⟩; have HM := Lib.hid hM; have HN2 := Lib.hid hn2; have HBL : Hid (w.heap.size < w2.heap.size) := Lib.hid HR.out.lt; have HNW := Lib.hid hnw; (replace HR := Lib.hid (HR.out.later ho)); (replace HO := Lib.hid (on_new HO.out ho)); clear ho hM hn2 hnw))
  have HL : Hid (M = [g, ph, t, x, r, p, l]) := HM
  obtain ⟨w4, hw4⟩ : ∃ y, y = w3.alloc (.cells #[.int .i64 g, .int .i64 ph, .int .i64 t, .int .i64 x, .int .i64 r, .int .i64 p, .int .i64 l, .slice A2 n2 c2] 36) := ⟨_, rfl⟩
  have HBX : Hid (Blk w4 w3.heap.size 36 [.int .i64 g, .int .i64 ph, .int .i64 t, .int .i64 x, .int .i64 r, .int .i64 p, .int .i64 l, .slice A2 n2 c2]) := Lib.hid (by rw [hw4]; exact Blk.new w3 36 _)
  have HON : Hid (Only (w3.heap.size ≤ ·) w3 w4) := Lib.hid (by rw [hw4]; exact (Only.refl _ w3).alloc (fun _ h => h) _)
  replace HR := Lib.hid (HR.out.later HON.out)
  replace HO := Lib.hid (on_new HO.out HON.out)
  replace HNW := Lib.hid (HNW.out.later HON.out)
  rw [← hw4]
  clear hw4 HON
  obtain ⟨b0, b1, b2, b3, b4, b5, b6, b7⟩ := HBX.out.eight
  have hbd : gen g = false ∨ (gen g = true ∧ 3 < t) := by
    have h := HBD.out
    rw [HL.out] at h
    exact h
  rcases hbd with hg | ⟨hg, ht⟩
  · have HGE : Hid (∀ W, Calls Tryd.prog 56 #[.int .i64 g] W fun e w' => e = .returned (.bool false) ∧ W = w') := Lib.hid fun W => by have h := Gen_c W g; rwa [hg] at h
    clear hg
    go_upto_region 7 with (go_at_call 56; (with_reducible refine (HGE.out _).mono ?_); rintro ee w5 ⟨rfl, rfl⟩)
    clear b0 b1 b2 b3 b4 b5 b6 b7
    obtain ⟨r0, r1, r2, r3, r4, r5, r6, r7⟩ := HR.out.eight
    have z0 := HR.out.frozen 0
    have z1 := HR.out.frozen 1
    have z2 := HR.out.frozen 2
    have z3 := HR.out.frozen 3
    have z4 := HR.out.frozen 4
    have z5 := HR.out.frozen 5
    have z6 := HR.out.frozen 6
    have z7 := HR.out.frozen 7
    go_wp2
    refine bodyPost_ret (results_cell_tmp rfl rfl (load_meta ((((((((HR.out.set_ 0 (.int .i64 0)).set_ 1 (.int .i64 0)).set_ 2 (.int .i64 0)).set_ 3 (.int .i64 0)).set_ 4 (.int .i64 0)).set_ 5 (.int .i64 0)).set_ 6 (.int .i64 0)).set_ 7 (.slice none 0 0)))) rfl ?_
    exact ⟨0, 0, 0, 0, 0, 0, 0, none, 0, 0, rfl, rfl, rfl, New.nil_ _ _, ((((((((HO.out.setCell (p := ⟨w.heap.size, 0, none⟩) (Nat.le_refl _) (.int .i64 0)).setCell (p := ⟨w.heap.size, 1, none⟩) (Nat.le_refl _) (.int .i64 0)).setCell (p := ⟨w.heap.size, 2, none⟩) (Nat.le_refl _) (.int .i64 0)).setCell (p := ⟨w.heap.size, 3, none⟩) (Nat.le_refl _) (.int .i64 0)).setCell (p := ⟨w.heap.size, 4, none⟩) (Nat.le_refl _) (.int .i64 0)).setCell (p := ⟨w.heap.size, 5, none⟩) (Nat.le_refl _) (.int .i64 0)).setCell (p := ⟨w.heap.size, 6, none⟩) (Nat.le_refl _) (.int .i64 0)).setCell (p := ⟨w.heap.size, 7, none⟩) (Nat.le_refl _) (.slice none 0 0))⟩
  · have HGE : Hid (∀ W, Calls Tryd.prog 56 #[.int .i64 g] W fun e w' => e = .returned (.bool true) ∧ W = w') := Lib.hid fun W => by have h := Gen_c W g; rwa [hg] at h
    clear hg
    go_upto_region 7 with (go_at_call 56; (with_reducible refine (HGE.out _).mono ?_); rintro ee w5 ⟨rfl, rfl⟩)
    clear b0 b1 b2 b3 b4 b5 b6 b7 ht
    obtain ⟨r0, r1, r2, r3, r4, r5, r6, r7⟩ := HR.out.eight
    have z0 := HR.out.frozen 0
    have z1 := HR.out.frozen 1
    have z2 := HR.out.frozen 2
    have z3 := HR.out.frozen 3
    have z4 := HR.out.frozen 4
    have z5 := HR.out.frozen 5
    have z6 := HR.out.frozen 6
    have z7 := HR.out.frozen 7
    go_wp2
    refine bodyPost_ret (results_cell_tmp rfl rfl (load_meta ((((((((HR.out.set_ 0 (.int .i64 0)).set_ 1 (.int .i64 0)).set_ 2 (.int .i64 0)).set_ 3 (.int .i64 0)).set_ 4 (.int .i64 0)).set_ 5 (.int .i64 0)).set_ 6 (.int .i64 0)).set_ 7 (.slice none 0 0)))) rfl ?_
    exact ⟨0, 0, 0, 0, 0, 0, 0, none, 0, 0, rfl, rfl, rfl, New.nil_ _ _, ((((((((HO.out.setCell (p := ⟨w.heap.size, 0, none⟩) (Nat.le_refl _) (.int .i64 0)).setCell (p := ⟨w.heap.size, 1, none⟩) (Nat.le_refl _) (.int .i64 0)).setCell (p := ⟨w.heap.size, 2, none⟩) (Nat.le_refl _) (.int .i64 0)).setCell (p := ⟨w.heap.size, 3, none⟩) (Nat.le_refl _) (.int .i64 0)).setCell (p := ⟨w.heap.size, 4, none⟩) (Nat.le_refl _) (.int .i64 0)).setCell (p := ⟨w.heap.size, 5, none⟩) (Nat.le_refl _) (.int .i64 0)).setCell (p := ⟨w.heap.size, 6, none⟩) (Nat.le_refl _) (.int .i64 0)).setCell (p := ⟨w.heap.size, 7, none⟩) (Nat.le_refl _) (.slice none 0 0))⟩
/-- The meta may be; Encode tells z, and bytes. -/
def AgP (w : World) (A2 : Option Addr) (n2 c2 : Nat) (g ph t x r p l : Int) : Value := .agg #[.int .i64 g, .int .i64 ph, .int .i64 t, .int .i64 x, .int .i64 r, .int .i64 p, .int .i64 l, .slice A2 n2 c2]
set_option maxRecDepth 100000 in
set_option maxHeartbeats 6400000 in
theorem dec_92 (hMA : ∀ W, Only (w.heap.size ≤ ·) w W → Calls Tryd.prog 77 #[.slice A n c] W (Told W (.bool true))) (hSE : ∀ W, Only (w.heap.size ≤ ·) w W → Calls Tryd.prog 78 #[.slice A n c, .int .i64 252] W (Told W (.bool true))) (M : List Int) (xs : Bytes) (hRE : ∀ W, Only (w.heap.size ≤ ·) w W → Calls Tryd.prog 79 #[.slice A n c] W (GaveMt W M xs)) (hb : gen (M.getD 0 0) = true ∧ M.getD 2 0 ≤ 3) (PB b : Bytes) (z : Int) (hs : ∀ W, Only (w.heap.size ≤ ·) w W → Src W (.slice A n c) b)
    (hEN : ∀ W g ph t x r p l A2 n2 c2, M = [g, ph, t, x, r, p, l] → n2 = xs.length → Only (w.heap.size ≤ ·) w W → Src W (.slice A2 n2 c2) xs → Calls Tryd.prog 55 #[.agg #[.int .i64 g, .int .i64 ph, .int .i64 t, .int .i64 x, .int .i64 r, .int .i64 p, .int .i64 l, .slice A2 n2 c2]] W (GaveBE W PB z)) (hz : z ≠ 0 ∨ (z = 0 ∧ PB ≠ b)) : Calls Tryd.prog 60 #[.slice A n c] w (GaveME w [0, 0, 0, 0, 0, 0, 0] [] 92) := by
  obtain ⟨w1, hw1⟩ : ∃ W0, W0 = w.alloc (.cells #[.int .i64 0, .int .i64 0, .int .i64 0, .int .i64 0, .int .i64 0, .int .i64 0, .int .i64 0, .slice none 0 0] 36) := ⟨_, rfl⟩
  have HO : Hid (Only (w.heap.size ≤ ·) w w1) := Lib.hid (by rw [hw1]; exact (Only.refl _ w).alloc (fun _ h => h) _)
  have HR : Hid (Blk w1 w.heap.size 36 [.int .i64 0, .int .i64 0, .int .i64 0, .int .i64 0, .int .i64 0, .int .i64 0, .int .i64 0, .slice none 0 0]) := Lib.hid (by rw [hw1]; exact Blk.new w 36 _)
  have HMA := Lib.hid hMA
  have HSE := Lib.hid hSE
  have HRE := Lib.hid hRE
  have HBD := Lib.hid hb
  have HEN0 := Lib.hid hEN
  have HSS := Lib.hid hs
  clear hMA hSE hRE hb hEN hs
  go_enter Tryd.func60, Tryd.ntmps60
  go_upto_region 1 with (fail)
  rw [← hw1]
  clear hw1
  go_upto_region 6 with (first
    | (go_at_call 77; (with_reducible refine (HMA.out _ HO.out).mono ?_); rintro ee w2 ⟨rfl, ho⟩; (replace HR := Lib.hid (HR.out.later ho)); (replace HO := Lib.hid (on_new HO.out ho)); clear ho)
    | (go_at_call 78; (with_reducible refine (HSE.out _ HO.out).mono ?_); rintro ee w2 ⟨rfl, ho⟩; (replace HR := Lib.hid (HR.out.later ho)); (replace HO := Lib.hid (on_new HO.out ho)); clear ho)
    | (go_at_call 79; (with_reducible refine (HRE.out _ HO.out).mono ?_); rintro ee w3 ⟨g, ph, t, x, r, p, l, A2, n2, c2, hM, hn2, rfl, hnw, ho⟩; have HM := Lib.hid hM; have HN2 := Lib.hid hn2; have HBL : Hid (w.heap.size < w2.heap.size) := Lib.hid HR.out.lt; have HNW := Lib.hid hnw; (replace HR := Lib.hid (HR.out.later ho)); (replace HO := Lib.hid (on_new HO.out ho)); clear ho hM hn2 hnw))
  have HL : Hid (M = [g, ph, t, x, r, p, l]) := HM
  obtain ⟨w4, hw4⟩ : ∃ y, y = w3.alloc (.cells #[.int .i64 g, .int .i64 ph, .int .i64 t, .int .i64 x, .int .i64 r, .int .i64 p, .int .i64 l, .slice A2 n2 c2] 36) := ⟨_, rfl⟩
  have HBX : Hid (Blk w4 w3.heap.size 36 [.int .i64 g, .int .i64 ph, .int .i64 t, .int .i64 x, .int .i64 r, .int .i64 p, .int .i64 l, .slice A2 n2 c2]) := Lib.hid (by rw [hw4]; exact Blk.new w3 36 _)
  have HON : Hid (Only (w3.heap.size ≤ ·) w3 w4) := Lib.hid (by rw [hw4]; exact (Only.refl _ w3).alloc (fun _ h => h) _)
  replace HR := Lib.hid (HR.out.later HON.out)
  replace HO := Lib.hid (on_new HO.out HON.out)
  replace HNW := Lib.hid (HNW.out.later HON.out)
  rw [← hw4]
  clear hw4 HON
  obtain ⟨b0, b1, b2, b3, b4, b5, b6, b7⟩ := HBX.out.eight
  obtain ⟨hg, ht⟩ : gen g = true ∧ ¬ 3 < t := by
    have h := HBD.out
    rw [HL.out] at h
    exact ⟨h.1, Int.not_lt.2 h.2⟩
  have HGE : Hid (∀ W, Calls Tryd.prog 56 #[.int .i64 g] W fun e w' => e = .returned (.bool true) ∧ W = w') := Lib.hid fun W => by have h := Gen_c W g; rwa [hg] at h
  have HEN : Hid (∀ W A2' c2', Only (w.heap.size ≤ ·) w W → Src W (.slice A2' n2 c2') xs → Calls Tryd.prog 55 #[.agg #[.int .i64 g, .int .i64 ph, .int .i64 t, .int .i64 x, .int .i64 r, .int .i64 p, .int .i64 l, .slice A2' n2 c2']] W (GaveBE W PB z)) := Lib.hid fun W A2' c2' hW hS => HEN0.out W g ph t x r p l A2' n2 c2' HL.out HN2.out hW hS
  clear hg HEN0
  rcases hz with hz | ⟨rfl, hz⟩
  · have hzb : (z != 0) = true := by rw [bne_iff_ne]; exact hz
    go_upto_region 10 with (first
      | (go_at_call 56; (with_reducible refine (HGE.out _).mono ?_); rintro ee w5 ⟨rfl, rfl⟩)
      | (go_at_call 55; (with_reducible refine (HEN.out _ _ _ HO.out HNW.out.src).mono ?_); rintro ee w6 ⟨v6, rfl, hv6, ho⟩; have HV6 := Lib.hid hv6; (replace HR := Lib.hid (HR.out.later ho)); (replace HBX := Lib.hid (HBX.out.later ho)); (replace HNW := Lib.hid (HNW.out.later ho)); (replace HO := Lib.hid (on_new HO.out ho)); clear ho b0 b1 b2 b3 b4 b5 b6 b7 hv6))
    clear ht hz hzb
    obtain ⟨r0, r1, r2, r3, r4, r5, r6, r7⟩ := HR.out.eight
    have z0 := HR.out.frozen 0
    have z1 := HR.out.frozen 1
    have z2 := HR.out.frozen 2
    have z3 := HR.out.frozen 3
    have z4 := HR.out.frozen 4
    have z5 := HR.out.frozen 5
    have z6 := HR.out.frozen 6
    have z7 := HR.out.frozen 7
    go_wp2
    refine bodyPost_ret (results_cell_tmp rfl rfl (load_meta ((((((((HR.out.set_ 0 (.int .i64 0)).set_ 1 (.int .i64 0)).set_ 2 (.int .i64 0)).set_ 3 (.int .i64 0)).set_ 4 (.int .i64 0)).set_ 5 (.int .i64 0)).set_ 6 (.int .i64 0)).set_ 7 (.slice none 0 0)))) rfl ?_
    exact ⟨0, 0, 0, 0, 0, 0, 0, none, 0, 0, rfl, rfl, rfl, New.nil_ _ _, ((((((((HO.out.setCell (p := ⟨w.heap.size, 0, none⟩) (Nat.le_refl _) (.int .i64 0)).setCell (p := ⟨w.heap.size, 1, none⟩) (Nat.le_refl _) (.int .i64 0)).setCell (p := ⟨w.heap.size, 2, none⟩) (Nat.le_refl _) (.int .i64 0)).setCell (p := ⟨w.heap.size, 3, none⟩) (Nat.le_refl _) (.int .i64 0)).setCell (p := ⟨w.heap.size, 4, none⟩) (Nat.le_refl _) (.int .i64 0)).setCell (p := ⟨w.heap.size, 5, none⟩) (Nat.le_refl _) (.int .i64 0)).setCell (p := ⟨w.heap.size, 6, none⟩) (Nat.le_refl _) (.int .i64 0)).setCell (p := ⟨w.heap.size, 7, none⟩) (Nat.le_refl _) (.slice none 0 0))⟩
  · have HPB := Lib.hid hz
    go_upto_region 10 with (first
      | (go_at_call 56; (with_reducible refine (HGE.out _).mono ?_); rintro ee w5 ⟨rfl, rfl⟩)
      | (go_at_call 55; (with_reducible refine (HEN.out _ _ _ HO.out HNW.out.src).mono ?_); rintro ee w6 ⟨v6, rfl, hv6, ho⟩; have HV6 := Lib.hid hv6; (replace HR := Lib.hid (HR.out.later ho)); (replace HBX := Lib.hid (HBX.out.later ho)); (replace HNW := Lib.hid (HNW.out.later ho)); (replace HO := Lib.hid (on_new HO.out ho)); clear ho b0 b1 b2 b3 b4 b5 b6 b7 hv6)
      | (go_at_call 30; (with_reducible refine (Equal_b _ _ _ PB b false HV6.out (HSS.out _ HO.out) (decide_eq_false HPB.out)).mono ?_); rintro ee w' ⟨rfl, rfl⟩))
    clear ht hz
    obtain ⟨r0, r1, r2, r3, r4, r5, r6, r7⟩ := HR.out.eight
    have z0 := HR.out.frozen 0
    have z1 := HR.out.frozen 1
    have z2 := HR.out.frozen 2
    have z3 := HR.out.frozen 3
    have z4 := HR.out.frozen 4
    have z5 := HR.out.frozen 5
    have z6 := HR.out.frozen 6
    have z7 := HR.out.frozen 7
    go_wp2
    refine bodyPost_ret (results_cell_tmp rfl rfl (load_meta ((((((((HR.out.set_ 0 (.int .i64 0)).set_ 1 (.int .i64 0)).set_ 2 (.int .i64 0)).set_ 3 (.int .i64 0)).set_ 4 (.int .i64 0)).set_ 5 (.int .i64 0)).set_ 6 (.int .i64 0)).set_ 7 (.slice none 0 0)))) rfl ?_
    exact ⟨0, 0, 0, 0, 0, 0, 0, none, 0, 0, rfl, rfl, rfl, New.nil_ _ _, ((((((((HO.out.setCell (p := ⟨w.heap.size, 0, none⟩) (Nat.le_refl _) (.int .i64 0)).setCell (p := ⟨w.heap.size, 1, none⟩) (Nat.le_refl _) (.int .i64 0)).setCell (p := ⟨w.heap.size, 2, none⟩) (Nat.le_refl _) (.int .i64 0)).setCell (p := ⟨w.heap.size, 3, none⟩) (Nat.le_refl _) (.int .i64 0)).setCell (p := ⟨w.heap.size, 4, none⟩) (Nat.le_refl _) (.int .i64 0)).setCell (p := ⟨w.heap.size, 5, none⟩) (Nat.le_refl _) (.int .i64 0)).setCell (p := ⟨w.heap.size, 6, none⟩) (Nat.le_refl _) (.int .i64 0)).setCell (p := ⟨w.heap.size, 7, none⟩) (Nat.le_refl _) (.slice none 0 0))⟩
set_option maxRecDepth 100000 in
set_option maxHeartbeats 6400000 in
theorem dec_0 (hMA : ∀ W, Only (w.heap.size ≤ ·) w W → Calls Tryd.prog 77 #[.slice A n c] W (Told W (.bool true))) (hSE : ∀ W, Only (w.heap.size ≤ ·) w W → Calls Tryd.prog 78 #[.slice A n c, .int .i64 252] W (Told W (.bool true))) (M : List Int) (xs : Bytes) (hRE : ∀ W, Only (w.heap.size ≤ ·) w W → Calls Tryd.prog 79 #[.slice A n c] W (GaveMt W M xs)) (hb : gen (M.getD 0 0) = true ∧ M.getD 2 0 ≤ 3) (b : Bytes) (hs : ∀ W, Only (w.heap.size ≤ ·) w W → Src W (.slice A n c) b)
    (hEN : ∀ W g ph t x r p l A2 n2 c2, M = [g, ph, t, x, r, p, l] → n2 = xs.length → Only (w.heap.size ≤ ·) w W → Src W (.slice A2 n2 c2) xs → Calls Tryd.prog 55 #[.agg #[.int .i64 g, .int .i64 ph, .int .i64 t, .int .i64 x, .int .i64 r, .int .i64 p, .int .i64 l, .slice A2 n2 c2]] W (GaveBE W b 0)) : Calls Tryd.prog 60 #[.slice A n c] w (GaveME w M xs 0) := by
  obtain ⟨w1, hw1⟩ : ∃ W0, W0 = w.alloc (.cells #[.int .i64 0, .int .i64 0, .int .i64 0, .int .i64 0, .int .i64 0, .int .i64 0, .int .i64 0, .slice none 0 0] 36) := ⟨_, rfl⟩
  have HO : Hid (Only (w.heap.size ≤ ·) w w1) := Lib.hid (by rw [hw1]; exact (Only.refl _ w).alloc (fun _ h => h) _)
  have HR : Hid (Blk w1 w.heap.size 36 [.int .i64 0, .int .i64 0, .int .i64 0, .int .i64 0, .int .i64 0, .int .i64 0, .int .i64 0, .slice none 0 0]) := Lib.hid (by rw [hw1]; exact Blk.new w 36 _)
  have HMA := Lib.hid hMA
  have HSE := Lib.hid hSE
  have HRE := Lib.hid hRE
  have HBD := Lib.hid hb
  have HEN0 := Lib.hid hEN
  have HSS := Lib.hid hs
  clear hMA hSE hRE hb hEN hs
  go_enter Tryd.func60, Tryd.ntmps60
  go_upto_region 1 with (fail)
  rw [← hw1]
  clear hw1
  go_upto_region 6 with (first
    | (go_at_call 77; (with_reducible refine (HMA.out _ HO.out).mono ?_); rintro ee w2 ⟨rfl, ho⟩; (replace HR := Lib.hid (HR.out.later ho)); (replace HO := Lib.hid (on_new HO.out ho)); clear ho)
    | (go_at_call 78; (with_reducible refine (HSE.out _ HO.out).mono ?_); rintro ee w2 ⟨rfl, ho⟩; (replace HR := Lib.hid (HR.out.later ho)); (replace HO := Lib.hid (on_new HO.out ho)); clear ho)
    | (go_at_call 79; (with_reducible refine (HRE.out _ HO.out).mono ?_); rintro ee w3 ⟨g, ph, t, x, r, p, l, A2, n2, c2, hM, hn2, rfl, hnw, ho⟩; have HM := Lib.hid hM; have HN2 := Lib.hid hn2; have HBL : Hid (w.heap.size < w2.heap.size) := Lib.hid HR.out.lt; have HNW := Lib.hid hnw; (replace HR := Lib.hid (HR.out.later ho)); (replace HO := Lib.hid (on_new HO.out ho)); clear ho hM hn2 hnw))
  have HL : Hid (M = [g, ph, t, x, r, p, l]) := HM
  obtain ⟨w4, hw4⟩ : ∃ y, y = w3.alloc (.cells #[.int .i64 g, .int .i64 ph, .int .i64 t, .int .i64 x, .int .i64 r, .int .i64 p, .int .i64 l, .slice A2 n2 c2] 36) := ⟨_, rfl⟩
  have HBX : Hid (Blk w4 w3.heap.size 36 [.int .i64 g, .int .i64 ph, .int .i64 t, .int .i64 x, .int .i64 r, .int .i64 p, .int .i64 l, .slice A2 n2 c2]) := Lib.hid (by rw [hw4]; exact Blk.new w3 36 _)
  have HON : Hid (Only (w3.heap.size ≤ ·) w3 w4) := Lib.hid (by rw [hw4]; exact (Only.refl _ w3).alloc (fun _ h => h) _)
  replace HR := Lib.hid (HR.out.later HON.out)
  replace HO := Lib.hid (on_new HO.out HON.out)
  replace HNW := Lib.hid (HNW.out.later HON.out)
  rw [← hw4]
  clear hw4 HON
  obtain ⟨b0, b1, b2, b3, b4, b5, b6, b7⟩ := HBX.out.eight
  obtain ⟨hg, ht⟩ : gen g = true ∧ ¬ 3 < t := by
    have h := HBD.out
    rw [HL.out] at h
    exact ⟨h.1, Int.not_lt.2 h.2⟩
  have HGE : Hid (∀ W, Calls Tryd.prog 56 #[.int .i64 g] W fun e w' => e = .returned (.bool true) ∧ W = w') := Lib.hid fun W => by have h := Gen_c W g; rwa [hg] at h
  have HEN : Hid (∀ W A2' c2', Only (w.heap.size ≤ ·) w W → Src W (.slice A2' n2 c2') xs → Calls Tryd.prog 55 #[.agg #[.int .i64 g, .int .i64 ph, .int .i64 t, .int .i64 x, .int .i64 r, .int .i64 p, .int .i64 l, .slice A2' n2 c2']] W (GaveBE W b 0)) := Lib.hid fun W A2' c2' hW hS => HEN0.out W g ph t x r p l A2' n2 c2' HL.out HN2.out hW hS
  clear hg HEN0
  go_upto_region 11 with (first
    | (go_at_call 56; (with_reducible refine (HGE.out _).mono ?_); rintro ee w5 ⟨rfl, rfl⟩)
    | (go_at_call 55; (with_reducible refine (HEN.out _ _ _ HO.out HNW.out.src).mono ?_); rintro ee w6 ⟨v6, rfl, hv6, ho⟩; have HV6 := Lib.hid hv6; (replace HR := Lib.hid (HR.out.later ho)); (replace HBX := Lib.hid (HBX.out.later ho)); (replace HNW := Lib.hid (HNW.out.later ho)); (replace HO := Lib.hid (on_new HO.out ho)); clear ho b0 b1 b2 b3 b4 b5 b6 b7 hv6)
    | (go_at_call 30; (with_reducible refine (Equal_b _ _ _ b b true HV6.out (HSS.out _ HO.out) (by simp)).mono ?_); rintro ee w' ⟨rfl, rfl⟩))
  clear ht
  obtain ⟨b0, b1, b2, b3, b4, b5, b6, b7⟩ := HBX.out.eight
  obtain ⟨r0, r1, r2, r3, r4, r5, r6, r7⟩ := HR.out.eight
  have z0 := HR.out.frozen 0
  have z1 := HR.out.frozen 1
  have z2 := HR.out.frozen 2
  have z3 := HR.out.frozen 3
  have z4 := HR.out.frozen 4
  have z5 := HR.out.frozen 5
  have z6 := HR.out.frozen 6
  have z7 := HR.out.frozen 7
  go_wp2
  refine bodyPost_ret (results_cell_tmp rfl rfl (load_meta ((((((((HR.out.set_ 0 (.int .i64 g)).set_ 1 (.int .i64 ph)).set_ 2 (.int .i64 t)).set_ 3 (.int .i64 x)).set_ 4 (.int .i64 r)).set_ 5 (.int .i64 p)).set_ 6 (.int .i64 l)).set_ 7 (.slice A2 n2 c2)))) rfl ?_
  refine ⟨g, ph, t, x, r, p, l, A2, n2, c2, HL.out, HN2.out, rfl, ?_, ((((((((HO.out.setCell (p := ⟨w.heap.size, 0, none⟩) (Nat.le_refl _) (.int .i64 g)).setCell (p := ⟨w.heap.size, 1, none⟩) (Nat.le_refl _) (.int .i64 ph)).setCell (p := ⟨w.heap.size, 2, none⟩) (Nat.le_refl _) (.int .i64 t)).setCell (p := ⟨w.heap.size, 3, none⟩) (Nat.le_refl _) (.int .i64 x)).setCell (p := ⟨w.heap.size, 4, none⟩) (Nat.le_refl _) (.int .i64 r)).setCell (p := ⟨w.heap.size, 5, none⟩) (Nat.le_refl _) (.int .i64 p)).setCell (p := ⟨w.heap.size, 6, none⟩) (Nat.le_refl _) (.int .i64 l)).setCell (p := ⟨w.heap.size, 7, none⟩) (Nat.le_refl _) (.slice A2 n2 c2))⟩
  exact (HNW.out.keep (((((((((Only.refl (· = w.heap.size) _).setCell (p := ⟨w.heap.size, 0, none⟩) rfl (.int .i64 g)).setCell (p := ⟨w.heap.size, 1, none⟩) rfl (.int .i64 ph)).setCell (p := ⟨w.heap.size, 2, none⟩) rfl (.int .i64 t)).setCell (p := ⟨w.heap.size, 3, none⟩) rfl (.int .i64 x)).setCell (p := ⟨w.heap.size, 4, none⟩) rfl (.int .i64 r)).setCell (p := ⟨w.heap.size, 5, none⟩) rfl (.int .i64 p)).setCell (p := ⟨w.heap.size, 6, none⟩) rfl (.int .i64 l)).setCell (p := ⟨w.heap.size, 7, none⟩) rfl (.slice A2 n2 c2)) (fun k h1 _ h3 => by have := HBL.out; omega)).mono (by have := HBL.out; omega)
end
end Go.Proofs.YtopaponemjaenaaDoor
