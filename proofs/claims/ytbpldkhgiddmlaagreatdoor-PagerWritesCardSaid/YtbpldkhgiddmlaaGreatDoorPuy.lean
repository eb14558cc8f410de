/-
  PagerWrites: the early ends, the arguments, the law.
-/
import Derived.Test.YtbpldkhgiddmlaaGreatDoorPuw
import Derived.Test.YtbpldkhgiddmlaaGreatDoorPux
set_option linter.unusedVariables false
namespace Go.Proofs.YtbpldkhgiddmlaaGreatDoor
open Go.ChangeShapes Go.WideShapes Go.ChangeAt Go.RowKit Go.Deep

set_option maxRecDepth 100000 in
set_option maxHeartbeats 12800000 in
theorem pw_early (w : World) (hG : Gens w) (A : Option Addr) (n c : Nat) (RA : Option Addr) (rn rc : Nat) (ws : List Wt) (h : Wts w (.slice RA rn rc) ws) (hsum : ∀ y ∈ ws, y.2.length ≤ 140737488355328) (g ph t x r p l : Int) (MA : Option Addr) (mn mc : Nat) (fm : Bool) (lim fz : Int) (hc : fewP ws p mn = false ∨ 10240 < n) : Calls Tryz.prog 3 #[.slice A n c, .slice RA rn rc, .agg #[.int .i64 g, .int .i64 ph, .int .i64 t, .int .i64 x, .int .i64 r, .int .i64 p, .int .i64 l, .slice MA mn mc, .bool fm, .int .i64 lim, .int .i64 fz]] w (Told w (.bool true)) := by
  obtain ⟨w1, hw1⟩ : ∃ W0, W0 = w.alloc (.cells #[.int .i64 g, .int .i64 ph, .int .i64 t, .int .i64 x, .int .i64 r, .int .i64 p, .int .i64 l, .slice MA mn mc, .bool fm, .int .i64 lim, .int .i64 fz] 27) := ⟨_, rfl⟩
  have HOB : Hid (Only (w.heap.size ≤ ·) w w1) := Lib.hid (by rw [hw1]; exact (Only.refl _ w).alloc (fun _ h => h) _)
  have HA : Hid (Blk w1 w.heap.size 27 [.int .i64 g, .int .i64 ph, .int .i64 t, .int .i64 x, .int .i64 r, .int .i64 p, .int .i64 l, .slice MA mn mc, .bool fm, .int .i64 lim, .int .i64 fz]) := Lib.hid (by rw [hw1]; exact Blk.new w 27 _)
  have HE1 := Lib.hid hw1
  obtain ⟨f, hf⟩ : ∃ z, fewP ws p mn = z := ⟨_, rfl⟩
  have HFW : Hid (∀ W, Only (w1.heap.size ≤ ·) w1 W → Calls Tryz.prog 5 #[.slice RA rn rc, .agg #[.int .i64 g, .int .i64 ph, .int .i64 t, .int .i64 x, .int .i64 r, .int .i64 p, .int .i64 l, .slice MA mn mc]] W (Told W (.bool f))) := Lib.hid (fun W hW => by have h9 := Pgfew_w W g ph t x r p l MA mn mc RA rn rc ws (Rw.later h (on_new HOB.out hW)) hsum; rwa [hf] at h9)
  have HAL : Hid (∀ W, Only (w1.heap.size ≤ ·) w1 W → Calls Tryz.prog 6 #[] W (Told W (.bool true))) := Lib.hid fun W hW => Pgalive_c W (hG.later (on_new HOB.out hW))
  have HX : Hid (Only (w1.heap.size ≤ ·) w1 w1) := Lib.hid (Only.refl _ _)
  rw [hf] at hc
  clear hG h hsum hw1 hf
  obtain ⟨i0, i1, i2, i3, i4, i5, i6, i7, i8, i9, i10⟩ := blk_eleven HA.out
  cases f with
  | false =>
    clear hc
    go_enter Tryz.func3, Tryz.ntmps3
    go_upto_region 1 with (fail)
    rw [← HE1.out]
    clear HE1
    go_wp2_with (first
      | (go_at_call 5; (with_reducible refine (HFW.out _ HX.out).mono ?_); rintro e wa ⟨rfl, ho⟩; (replace HX := Lib.hid (on_new HX.out ho)); clear ho i0 i1 i2 i3 i4 i5 i6 i7 i8 i9 i10)
      | (go_at_call 6; (with_reducible refine (HAL.out _ HX.out).mono ?_); rintro e wa ⟨rfl, ho⟩; (replace HX := Lib.hid (on_new HX.out ho)); clear ho))
    go_ret
    exact ⟨rfl, on_new HOB.out HX.out⟩
  | true =>
    have h1 : 10240 < (n : Int) := by
      rcases hc with hc | hc
      · cases hc
      · omega
    clear hc
    go_enter Tryz.func3, Tryz.ntmps3
    go_upto_region 1 with (fail)
    rw [← HE1.out]
    clear HE1
    go_wp2_with (first
      | (go_at_call 5; (with_reducible refine (HFW.out _ HX.out).mono ?_); rintro e wa ⟨rfl, ho⟩; (replace HX := Lib.hid (on_new HX.out ho)); clear ho i0 i1 i2 i3 i4 i5 i6 i7 i8 i9 i10)
      | (go_at_call 6; (with_reducible refine (HAL.out _ HX.out).mono ?_); rintro e wa ⟨rfl, ho⟩; (replace HX := Lib.hid (on_new HX.out ho)); clear ho))
    go_ret
    exact ⟨rfl, on_new HOB.out HX.out⟩
theorem pwrites_c (w : World) (hG : Gens w) (A : Option Addr) (n c : Nat) (xs : Bytes) (hs : Src w (.slice A n c) xs) (hne : n = xs.length) (RA : Option Addr) (rn rc : Nat) (ws : List Wt) (h : Wts w (.slice RA rn rc) ws) (hsum : ∀ y ∈ ws, y.2.length ≤ 140737488355328) (hI : ∀ y ∈ ws, I64v y.1) (g ph t x r p l : Int) (MA : Option Addr) (mn mc : Nat) (ms : Bytes) (hms : Src w (.slice MA mn mc) ms) (hmn : mn = ms.length) (hM : ∀ u ∈ [g, ph, t, x, r, p, l], I64 u) (fm : Bool) (lim fz : Int) (hfz : I64v fz) : Calls Tryz.prog 3 #[.slice A n c, .slice RA rn rc, .agg #[.int .i64 g, .int .i64 ph, .int .i64 t, .int .i64 x, .int .i64 r, .int .i64 p, .int .i64 l, .slice MA mn mc, .bool fm, .int .i64 lim, .int .i64 fz]] w (Told w (.bool true)) := by
  by_cases hc : fewP ws p mn = false ∨ 10240 < n
  · exact pw_early w hG A n c RA rn rc ws h hsum g ph t x r p l MA mn mc fm lim fz hc
  · have hf : fewP ws p mn = true := by
      rw [← Bool.not_eq_false]
      exact fun e => hc (.inl e)
    have hn : ¬ 10240 < n := fun e => hc (.inr e)
    cases fm with
    | false => exact pw_main_false w hG A n c xs hs hne RA rn rc ws h hsum hI g ph t x r p l MA mn mc ms hms hmn hM lim fz hfz hf hn
    | true => exact pw_main_true w hG A n c xs hs hne RA rn rc ws h hsum hI g ph t x r p l MA mn mc ms hms hmn hM lim fz hfz hf hn
section
variable {H : Type} {enc : TypeId × Value → H} {w : World}
set_option maxRecDepth 100000 in
theorem meta_open {fuel : Nat} {cs : List Value} {x : DataW H × List MemPlace} (hcl : cs.length = 8) (h : DataW.trod enc Tryz.prog w 0 (fun _ => true) true fuel 25 cs = some x) :
    ∃ (g ph t x r pg l : Int) (A : Option Addr) (n c : Nat) (xs : Bytes), cs = [.int .i64 g, .int .i64 ph, .int .i64 t, .int .i64 x, .int .i64 r, .int .i64 pg, .int .i64 l, .slice A n c] ∧ xs.length = n ∧ Src w (.slice A n c) xs ∧ ∀ u ∈ [g, ph, t, x, r, pg, l], I64 u := by
  obtain ⟨ys, n', _, _, _, hyl, hg⟩ := DataW.trod_struct Tryz.underlying25 h
  have c3 : Tryz.prog.cellsOf 3 = 1 := by kernel_rfl
  have c25 : Tryz.prog.cellsOf 22 = 1 := by kernel_rfl
  have hl : cs.length = 8 := hcl
  have hyl' : ys.length = 8 := hyl
  obtain ⟨y0, y1, y2, y3, y4, y5, y6, y7, rfl⟩ : ∃ y0 y1 y2 y3 y4 y5 y6 y7, ys = [y0, y1, y2, y3, y4, y5, y6, y7] := by
    match ys, hyl' with
    | [y0, y1, y2, y3, y4, y5, y6, y7], _ => exact ⟨y0, y1, y2, y3, y4, y5, y6, y7, rfl⟩
  have t0 : DataW.trod enc Tryz.prog w 0 (fun _ => true) true n' 3 ((cs.drop 0).take (Tryz.prog.cellsOf 3)) = some y0 := hg 0 _ rfl
  have t1 : DataW.trod enc Tryz.prog w 0 (fun _ => true) true n' 3 ((cs.drop 1).take (Tryz.prog.cellsOf 3)) = some y1 := hg 1 _ rfl
  have t2 : DataW.trod enc Tryz.prog w 0 (fun _ => true) true n' 3 ((cs.drop 2).take (Tryz.prog.cellsOf 3)) = some y2 := hg 2 _ rfl
  have t3 : DataW.trod enc Tryz.prog w 0 (fun _ => true) true n' 3 ((cs.drop 3).take (Tryz.prog.cellsOf 3)) = some y3 := hg 3 _ rfl
  have t4 : DataW.trod enc Tryz.prog w 0 (fun _ => true) true n' 3 ((cs.drop 4).take (Tryz.prog.cellsOf 3)) = some y4 := hg 4 _ rfl
  have t5 : DataW.trod enc Tryz.prog w 0 (fun _ => true) true n' 3 ((cs.drop 5).take (Tryz.prog.cellsOf 3)) = some y5 := hg 5 _ rfl
  have t6 : DataW.trod enc Tryz.prog w 0 (fun _ => true) true n' 3 ((cs.drop 6).take (Tryz.prog.cellsOf 3)) = some y6 := hg 6 _ rfl
  have t7 : DataW.trod enc Tryz.prog w 0 (fun _ => true) true n' 22 ((cs.drop 7).take (Tryz.prog.cellsOf 22)) = some y7 := hg 7 _ rfl
  rw [c3] at t0 t1 t2 t3 t4 t5 t6
  rw [c25] at t7
  obtain ⟨a0, e0, h0⟩ := int_open t0
  obtain ⟨a1, e1, h1⟩ := int_open t1
  obtain ⟨a2, e2, h2⟩ := int_open t2
  obtain ⟨a3, e3, h3⟩ := int_open t3
  obtain ⟨a4, e4, h4⟩ := int_open t4
  obtain ⟨a5, e5, h5⟩ := int_open t5
  obtain ⟨a6, e6, h6⟩ := int_open t6
  obtain ⟨A, n, c, xs, e7, hx, sx, _⟩ := bytes_open t7
  refine ⟨a0, a1, a2, a3, a4, a5, a6, A, n, c, xs, ?_, hx, sx, ?_⟩
  · have s : cs = (cs.drop 0).take 1 ++ ((cs.drop 1).take 1 ++ ((cs.drop 2).take 1 ++ ((cs.drop 3).take 1 ++ ((cs.drop 4).take 1 ++ ((cs.drop 5).take 1 ++ ((cs.drop 6).take 1 ++ (cs.drop 7).take 1)))))) := by
      generalize cs = l at hl
      match l, hl with
      | [_, _, _, _, _, _, _, _], _ => rfl
    rw [e0, e1, e2, e3, e4, e5, e6, e7] at s
    exact s
  · intro u hu
    simp only [List.mem_cons, List.not_mem_nil, or_false] at hu
    rcases hu with rfl | rfl | rfl | rfl | rfl | rfl | rfl
    · exact h0
    · exact h1
    · exact h2
    · exact h3
    · exact h4
    · exact h5
    · exact h6
set_option maxRecDepth 100000 in
theorem way_arg {base : Nat} {v : Value} {d : DataW H} {p : List MemPlace} (hv : Value.okWide Tryz.prog w .any base 27 v) (h : DataW.Trod enc Tryz.prog w 0 (fun _ => true) true 27 v d p) :
    ∃ (g ph t x r pg l : Int) (A : Option Addr) (n c : Nat) (xs : Bytes) (fm : Bool) (lim fz : Int), v = .agg #[.int .i64 g, .int .i64 ph, .int .i64 t, .int .i64 x, .int .i64 r, .int .i64 pg, .int .i64 l, .slice A n c, .bool fm, .int .i64 lim, .int .i64 fz]
      ∧ xs.length = n ∧ Src w (.slice A n c) xs ∧ (∀ u ∈ [g, ph, t, x, r, pg, l], I64 u) ∧ I64v fz := by
  obtain ⟨fuel, hf⟩ := h
  obtain ⟨cs, rfl, hsz⟩ := okWide_struct Tryz.underlying27 hv
  rw [show Tryz.prog.cellsOf 27 = 11 by kernel_rfl] at hsz
  obtain ⟨ys, n', _, _, _, hyl, hg⟩ := DataW.trod_struct Tryz.underlying27 (show DataW.trod enc Tryz.prog w 0 (fun _ => true) true fuel 27 cs.toList = some (d, p) by simpa [Value.cells] using hf)
  have hl : cs.toList.length = 11 := by simpa using hsz
  have hyl' : ys.length = 4 := hyl
  obtain ⟨y0, y1, y2, y3, rfl⟩ : ∃ y0 y1 y2 y3, ys = [y0, y1, y2, y3] := by
    match ys, hyl' with
    | [y0, y1, y2, y3], _ => exact ⟨y0, y1, y2, y3, rfl⟩
  have t0 : DataW.trod enc Tryz.prog w 0 (fun _ => true) true n' 25 ((cs.toList.drop 0).take (Tryz.prog.cellsOf 25)) = some y0 := hg 0 _ rfl
  have t1 : DataW.trod enc Tryz.prog w 0 (fun _ => true) true n' 4 ((cs.toList.drop 8).take (Tryz.prog.cellsOf 4)) = some y1 := hg 1 _ rfl
  have t2 : DataW.trod enc Tryz.prog w 0 (fun _ => true) true n' 3 ((cs.toList.drop 9).take (Tryz.prog.cellsOf 3)) = some y2 := hg 2 _ rfl
  have t3 : DataW.trod enc Tryz.prog w 0 (fun _ => true) true n' 3 ((cs.toList.drop 10).take (Tryz.prog.cellsOf 3)) = some y3 := hg 3 _ rfl
  rw [show Tryz.prog.cellsOf 25 = 8 by kernel_rfl] at t0
  rw [show Tryz.prog.cellsOf 4 = 1 by kernel_rfl] at t1
  rw [show Tryz.prog.cellsOf 3 = 1 by kernel_rfl] at t2 t3
  obtain ⟨g, ph, t, x, r, pg, l, A, n, c, xs, e0, hx, sx, hi⟩ := meta_open (by rw [List.length_take, List.length_drop, hl]; rfl) t0
  obtain ⟨fm, e1, _⟩ := DataW.trod_bool Tryz.underlying4 t1
  obtain ⟨lim, e2, _⟩ := int_open t2
  obtain ⟨fz, e3, hfz⟩ := int_open t3
  refine ⟨g, ph, t, x, r, pg, l, A, n, c, xs, fm, lim, fz, ?_, hx, sx, hi, hfz⟩
  have s : cs.toList = (cs.toList.drop 0).take 8 ++ ((cs.toList.drop 8).take 1 ++ ((cs.toList.drop 9).take 1 ++ (cs.toList.drop 10).take 1)) := by
    generalize cs.toList = l at hl
    match l, hl with
    | [_, _, _, _, _, _, _, _, _, _, _], _ => rfl
  rw [e0, e1, e2, e3] at s
  congr 1
  exact Array.toList_inj.1 s
end
end Go.Proofs.YtbpldkhgiddmlaaGreatDoor
