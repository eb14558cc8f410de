/-
  Encode of the document: the page of a node.
-/
import Derived.Test.YtnmfhadmkgndmaaGreatDoorRpf
import Derived.Test.YtnmfhadmkgndmaaGreatDoorDrx
set_option linter.unusedVariables false
namespace Go.Proofs.YtnmfhadmkgndmaaGreatDoor
open Go.RowKit

theorem le_one (n : Nat) (h : n < 256) : le n 1 = [UInt8.ofNat n] := by
  rw [le_cons, Nat.mod_eq_of_lt h]
  rfl
theorem serI_near {g : Int} {xs ys : Bytes} {s : Int} (hm : ys.length ≤ 32) (hn : xs.length < 256) : serI g (xs, ys, s, 0) = [UInt8.ofNat xs.length] ++ ([UInt8.ofNat 0] ++ (le ys.length 2 ++ (xs ++ ys))) := by
  have hf : far ys.length 0 = false := by unfold far; rw [decide_eq_false (by omega : ¬ ((0 : Int) ≠ 0 ∨ 32 < ys.length))]
  have hl : long ys.length s 0 = (ys.length : Int) := by unfold long; rw [if_pos rfl]
  show le xs.length 1 ++ (le (if far ys.length 0 = true then 1 else 0) 1 ++ (le (long ys.length s 0).toNat 2 ++ (xs ++ (if far ys.length 0 = true then le (0 : Int).toNat (tr g 4 8 8).toNat else ys)))) = _
  rw [hf, hl, if_neg Bool.false_ne_true, if_neg Bool.false_ne_true, le_one _ hn, le_one 0 (by omega), Int.toNat_natCast]
theorem serI_far {g : Int} {xs ys : Bytes} {s r : Nat} (hr : ¬ (r : Int) = 0) (hn : xs.length < 256) : serI g (xs, ys, (s : Int), (r : Int)) = [UInt8.ofNat xs.length] ++ ([UInt8.ofNat 1] ++ (le s 2 ++ (xs ++ le r (tr g 4 8 8).toNat))) := by
  have hf : far ys.length (r : Int) = true := by unfold far; rw [decide_eq_true (Or.inl hr)]
  have hl : long ys.length s (r : Int) = (s : Int) := by unfold long; rw [if_neg hr]
  show le xs.length 1 ++ (le (if far ys.length (r : Int) = true then 1 else 0) 1 ++ (le (long ys.length s (r : Int)).toNat 2 ++ (xs ++ (if far ys.length (r : Int) = true then le (r : Int).toNat (tr g 4 8 8).toNat else ys)))) = _
  rw [hf, hl, if_pos rfl, if_pos rfl, le_one _ hn, le_one 1 (by omega), Int.toNat_natCast, Int.toNat_natCast]
theorem serK_one {g : Int} {xs : Bytes} {r : Nat} (hn : xs.length < 256) : serK g (xs, (r : Int)) = [UInt8.ofNat xs.length] ++ (xs ++ le r (tr g 4 8 8).toNat) := by
  unfold serK
  simp only
  rw [le_one _ hn, Int.toNat_natCast]
theorem okay_in {g : Int} {n m : Nat} {s r : Int} (h : okay g n m s r = true) : n < 256 ∧ (r ≠ 0 → 0 ≤ s ∧ s ≤ 1600 ∧ 0 ≤ r ∧ r < 16384) := by
  unfold okay keyOk putOk long at h
  simp only [Bool.and_eq_true, decide_eq_true_eq] at h
  obtain ⟨hg, ⟨h2, h3⟩, h4, h5⟩ := h
  have t1 : tr g 16 20 24 ≤ 24 := by rcases (gen_iff g).1 hg with rfl | rfl | rfl <;> decide
  have t2 : tr g 400 800 1600 ≤ 1600 := by rcases (gen_iff g).1 hg with rfl | rfl | rfl <;> decide
  refine ⟨by omega, fun hr => ?_⟩
  rw [if_neg hr] at h4
  omega
theorem flat_take_len {α : Type} (l : List α) (f : α → Bytes) (k : Nat) : ((l.take k).flatMap f).length ≤ (l.flatMap f).length := by
  have e : l.flatMap f = (l.take k).flatMap f ++ (l.drop k).flatMap f := by rw [← List.flatMap_append, List.take_append_drop]
  rw [e, List.length_append]
  omega
theorem flat_snoc_ {α : Type} {l : List α} {f : α → Bytes} {k : Nat} {y : α} (h : l[k]? = some y) : (l.take (k + 1)).flatMap f = (l.take k).flatMap f ++ f y := by
  rw [List.take_add_one, h, List.flatMap_append]
  simp
/-- The items so far have their values placed. -/
def Placed (x : Nd) (k : Nat) : Prop := ∀ j y, j < k → x.its[j]? = some y → unp y.2.1.length y.2.2.2 = false
theorem Placed.next {x : Nd} {k : Nat} {y : It} (h : Placed x k) (hy : x.its[k]? = some y) (hu : unp y.2.1.length y.2.2.2 = false) : Placed x (k + 1) := fun j z hj hz => by
  by_cases e : j = k
  · subst e
    obtain rfl := Option.some.inj (hy.symm.trans hz)
    exact hu
  · exact h j z (by omega) hz
theorem Placed.all {x : Nd} {k : Nat} (h : Placed x k) (hk : x.its.length ≤ k) : anyU x.its = false := by
  unfold anyU
  rw [List.any_eq_false]
  intro i hi
  obtain ⟨j, hj, e⟩ := List.mem_iff_getElem.1 hi
  have := h j i (by omega) (by rw [← e]; exact List.getElem?_eq_getElem hj)
  simp [this]
section
variable {B : Nat} {w1 wr w' : World} {v v' : Value} {xs xs' : Bytes}
theorem OwnF.box (h : OwnF (w1.heap.size ≤ ·) w1.heap.size w1 wr v xs) (o : Obj) : OwnF (fun j => w1.heap.size ≤ j ∧ j ≠ wr.heap.size) w1.heap.size (wr.alloc o) (wr.alloc o) v xs := by
  have hs : (wr.alloc o).heap.size = wr.heap.size + 1 := by simp
  have hl := h.2.2.2.1
  exact ⟨h.1.alloc o, fun k hk => ⟨h.2.1 k hk, fun e => by have := (World.ownsRow.lt h.1 k hk).2; omega⟩, Only.refl _ _, by omega, fun k hk => by omega⟩
theorem OwnF.unbox {o : Obj} (h1 : OwnF (w1.heap.size ≤ ·) w1.heap.size w1 wr v xs) (h : OwnF (fun j => w1.heap.size ≤ j ∧ j ≠ wr.heap.size) w1.heap.size (wr.alloc o) w' v' xs') : OwnF (w1.heap.size ≤ ·) w1.heap.size w1 w' v' xs' :=
  ⟨h.1, fun k hk => (h.2.1 k hk).1, (h1.alloc o).2.2.1.trans (h.2.2.1.mono fun k hk => hk.1), h.2.2.2.1, fun k hk => hk⟩
end
set_option maxRecDepth 100000 in
set_option maxHeartbeats 25600000 in
theorem rEncode_c (w : World) (g : Int) (A B : Option Addr) (n c m d : Nat) (f : Bool) (x : Nd) (hN : Nod w x f (.slice A n c) (.slice B m d)) (hn : n ≤ 1000) (hm : m ≤ 1000) :
    Calls Tryz.prog 8 #[.int .i64 g, .agg #[.bool f, .slice A n c, .slice B m d]] w (GaveE w g x) := by
  obtain ⟨W0, hW0⟩ : ∃ W0, W0 = (w.alloc (.cells #[.bool f, .slice A n c, .slice B m d] 25)) := ⟨_, rfl⟩
  have HO : Hid (Only (w.heap.size ≤ ·) w W0) := Lib.hid (by rw [hW0]; exact (Only.refl _ w).alloc (fun _ h => h) _)
  have HI0 : Hid (Blk W0 w.heap.size 25 [.bool f, .slice A n c, .slice B m d]) := Lib.hid (by rw [hW0]; exact Blk.new w 25 _)
  have hc1 := hN.2.1.cap
  have hc2 := hN.2.2.cap
  have HN := Lib.hid hN
  have HNL := Lib.hid hN.2.1.len
  have HML := Lib.hid hN.2.2.len
  have HFX := Lib.hid hN.1
  have HDR : Hid (∀ W, Only (w.heap.size ≤ ·) w W → Calls Tryz.prog 28 #[.int .i64 g, .agg #[.bool f, .slice A n c, .slice B m d]] W (ToldB W (fun b => b = true ↔ RightN g x))) := Lib.hid fun W hW => DRight_x W f A B n c m d x g (hN.later hW) (by unfold many; have := HNL.out; have := HML.out; split <;> omega)
  have HIW : Hid (∀ W, Calls Tryz.prog 29 #[.int .i64 g] W fun e w' => e = .returned (.int .i64 (tr g 4 8 8)) ∧ W = w') := Lib.hid fun W => rIdWidth_c W g
  clear hN
  obtain ⟨i0, i1, i2⟩ := HI0.out.tri
  go_enter Tryz.func8, Tryz.ntmps8
  go_upto_region 1 with (fail)
  rw [← hW0]
  clear hW0
  go_upto_region 5 with (first | (go_at_call 28; (with_reducible refine (HDR.out _ HO.out).mono ?_); rintro ee w1 ⟨b, rfl, hb, ho⟩; have HRI := Lib.hid hb; have HO1 := Lib.hid (on_new HO.out ho); have HI := Lib.hid (HI0.out.later ho); clear hb ho i0 i1 i2; (obtain ⟨i0, i1, i2⟩ := HI.out.tri); cases b) | (go_at_call 29; (with_reducible refine (HIW.out _).mono ?_); rintro ee w' ⟨rfl, rfl⟩))
  · go_ret2
    exact ⟨false, ⟨fun h => (by cases h), fun h => absurd (HRI.out.2 h.1) (by simp)⟩, _, rfl, Src.nil_ _, HO1.out⟩
  have HRN0 : Hid (RightN g x) := Lib.hid (HRI.out.1 (by simp))
  obtain ⟨g, rfl⟩ : ∃ q : Nat, g = (q : Int) := ⟨g.toNat, by obtain ⟨k, e, _⟩ := HRN0.out.nat; omega⟩
  have HRN : Hid (RightN (g : Int) x) := HRN0
  obtain ⟨q, hq, hq2, hq4, hq8⟩ := idw HRN.out.1
  have HQ := Lib.hid hq2
  rw [hq]
  have HRM : Hid ((x.its.flatMap (serI (g : Int))).length + (x.kds.flatMap (serK (g : Int))).length ≤ 248) := Lib.hid (by
    have h := HRN.out.room
    have t : tr (g : Int) 248 240 240 ≤ 248 := by rcases (gen_iff _).1 HRN.out.1 with e | e | e <;> rw [e] <;> decide
    rw [List.length_append] at h
    omega)
  clear hq hq2 HRN0 HRI HDR HIW
  go_wp2_with (fail)
  go_loopw [6, 8] (fun bv i wr => ∃ (k : Nat), k ≤ n ∧ i = .int .i64 k ∧ Hid (Placed x k) ∧ Hid (OwnF (w1.heap.size ≤ ·) w1.heap.size w1 wr bv ((x.its.take k).flatMap (serI (g : Int))))) (fun _ i _ => n - (intOf i).toNat)
  case atStart => exact ⟨0, Nat.zero_le _, rfl, Lib.hid (fun j y hj => by omega), Lib.hid ⟨World.ownsRow_nil _ _ _ _, fun k hk => (by cases hk), Only.refl _ _, Nat.le_refl _, fun k hk => hk⟩⟩
  case round =>
    obtain ⟨k, hk, rfl, hU, HR⟩ := hrel
    clear i0 i1 i2
    obtain ⟨i0, i1, i2⟩ := (HI.out.later HR.out.2.2.1).tri
    by_cases hlt : k < n
    · obtain ⟨T, hT⟩ : ∃ T, T = (x.its.take k).flatMap (serI (g : Int)) := ⟨_, rfl⟩
      rw [← hT] at HR
      have HT := Lib.hid hT
      clear hT
      obtain ⟨bb, off, y, P, Q, p, q0, rfl, hb, hy, c0, c1, c2, c3, s1, s2⟩ := its_at HN.out.2.1 hlt
      obtain ⟨xs, ys, s, r⟩ := y
      obtain ⟨kn, hkn⟩ : ∃ t, t = xs.length := ⟨_, rfl⟩
      obtain ⟨vn, hvn⟩ : ∃ t, t = ys.length := ⟨_, rfl⟩
      simp only at c0 c1 c2 c3 s1 s2
      rw [← hkn] at c0 s1
      rw [← hvn] at c1 s2
      have hof := on_new HO1.out HR.out.2.2.1
      replace c0 := (hof.cell (p := ⟨bb, off + k * 4, none⟩) (Nat.not_le.2 hb)).trans c0
      replace c1 := (hof.cell (p := ⟨bb, off + k * 4 + 1, none⟩) (Nat.not_le.2 hb)).trans c1
      replace c2 := (hof.cell (p := ⟨bb, off + k * 4 + 2, none⟩) (Nat.not_le.2 hb)).trans c2
      replace c3 := (hof.cell (p := ⟨bb, off + k * 4 + 3, none⟩) (Nat.not_le.2 hb)).trans c3
      obtain ⟨hn8, hfar⟩ := okay_in (HRN.out.its _ (List.mem_of_getElem? hy))
      simp only at hn8 hfar
      rw [← hkn] at hn8
      have HY := Lib.hid hy
      have HKE := Lib.hid hkn
      have HVE := Lib.hid hvn
      have j1 : (0 : Int) ≤ (k : Int) := by omega
      have j2 : (k : Int) < (n : Int) := by omega
      have hwn : IntKind.u8.wrap (kn : Int) = (kn : Int) := by unfold IntKind.wrap; simp [IntKind.signed, IntKind.bits]; omega
      have HB1 : Hid (∀ W : World, Src (W.alloc (.cells #[.int .u8 (kn : Nat)] 5)) (.slice (some ⟨W.heap.size, 0, none⟩) 1 1) [UInt8.ofNat kn]) := Lib.hid fun W => src_one W _ _ (by simp; omega)
      have hTL : T.length ≤ 248 := by rw [HT.out]; have := flat_take_len x.its (serI (g : Int)) k; have := HRM.out; omega
      clear hb hy hof hkn hvn
      by_cases hr : r = 0
      · subst hr
        by_cases hv : 32 < vn
        · have hvi : (32 : Int) < (vn : Int) := by omega
          have HUT : Hid (anyU x.its = true) := Lib.hid (by
            unfold anyU
            rw [List.any_eq_true]
            exact ⟨_, List.mem_of_getElem? HY.out, by simp only; rw [← HVE.out]; unfold unp far; rw [decide_eq_true (by omega : (0 : Int) ≠ 0 ∨ 32 < vn)]; rfl⟩)
          go_upto_region 9 with (fail)
          obtain ⟨wp, hwp⟩ : ∃ wp, wp = wr.alloc (.cells #[.slice P kn p, .slice Q vn q0, .int .i64 s, .int .i64 0] 67) := ⟨_, rfl⟩
          have hBp : Blk wp wr.heap.size 67 [.slice P kn p, .slice Q vn q0, .int .i64 s, .int .i64 0] := by rw [hwp]; exact Blk.new wr 67 _
          obtain ⟨F2, hF2⟩ : ∃ F : Nat → Prop, F = fun j => w1.heap.size ≤ j ∧ j ≠ wr.heap.size := ⟨_, rfl⟩
          have HM : Hid (OwnF F2 w1.heap.size wp wp u6 T) := Lib.hid (by rw [hwp, hF2]; exact HR.out.box _)
          have KU : Hid (∀ W v L, OwnF F2 w1.heap.size wp W v L → OwnF (w1.heap.size ≤ ·) w1.heap.size w1 W v L) := Lib.hid fun W v L h => by rw [hwp, hF2] at h; exact HR.out.unbox h
          have KI : Hid (∀ W, Only F2 wp W → W.cell? ⟨wr.heap.size, 0, none⟩ = some (.slice P kn p) ∧ W.cell? ⟨wr.heap.size, 1, none⟩ = some (.slice Q vn q0) ∧ W.cell? ⟨wr.heap.size, 2, none⟩ = some (.int .i64 s) ∧ W.cell? ⟨wr.heap.size, 3, none⟩ = some (.int .i64 0)) := Lib.hid fun W hW => (hBp.only hW (by rw [hF2]; exact fun h => h.2 rfl)).four
          have HSX : Hid (∀ W v L, OwnF F2 w1.heap.size wp W v L → Src W (.slice P kn p) xs) := Lib.hid fun W v L h => s1.later (on_new HO1.out (KU.out W v L h).2.2.1)
          have HSY : Hid (∀ W v L, OwnF F2 w1.heap.size wp W v L → Src W (.slice Q vn q0) ys) := Lib.hid fun W v L h => s2.later (on_new HO1.out (KU.out W v L h).2.2.1)
          rw [← hwp]
          clear hwp hBp hF2 s1 s2 c0 c1 c2 c3 i0 i1 i2
          obtain ⟨b0, b1, b2, b3⟩ := KI.out _ HM.out.2.2.1
          go_wp2
          go_ret2
          exact ⟨false, ⟨fun h => (by cases h), fun h => absurd h.2 (by rw [HUT.out]; decide)⟩, _, rfl, Src.nil_ _, on_new HO1.out (KU.out _ _ _ HM.out).2.2.1⟩
        · have hvi : ¬ (32 : Int) < (vn : Int) := by omega
          have HB2 : Hid (∀ W : World, Src (W.alloc (.cells #[.int .u8 0] 5)) (.slice (some ⟨W.heap.size, 0, none⟩) 1 1) [UInt8.ofNat 0]) := Lib.hid fun W => src_one W _ _ rfl
          go_upto_region 9 with (fail)
          obtain ⟨wp, hwp⟩ : ∃ wp, wp = wr.alloc (.cells #[.slice P kn p, .slice Q vn q0, .int .i64 s, .int .i64 0] 67) := ⟨_, rfl⟩
          have hBp : Blk wp wr.heap.size 67 [.slice P kn p, .slice Q vn q0, .int .i64 s, .int .i64 0] := by rw [hwp]; exact Blk.new wr 67 _
          obtain ⟨F2, hF2⟩ : ∃ F : Nat → Prop, F = fun j => w1.heap.size ≤ j ∧ j ≠ wr.heap.size := ⟨_, rfl⟩
          have HM : Hid (OwnF F2 w1.heap.size wp wp u6 T) := Lib.hid (by rw [hwp, hF2]; exact HR.out.box _)
          have KU : Hid (∀ W v L, OwnF F2 w1.heap.size wp W v L → OwnF (w1.heap.size ≤ ·) w1.heap.size w1 W v L) := Lib.hid fun W v L h => by rw [hwp, hF2] at h; exact HR.out.unbox h
          have KI : Hid (∀ W, Only F2 wp W → W.cell? ⟨wr.heap.size, 0, none⟩ = some (.slice P kn p) ∧ W.cell? ⟨wr.heap.size, 1, none⟩ = some (.slice Q vn q0) ∧ W.cell? ⟨wr.heap.size, 2, none⟩ = some (.int .i64 s) ∧ W.cell? ⟨wr.heap.size, 3, none⟩ = some (.int .i64 0)) := Lib.hid fun W hW => (hBp.only hW (by rw [hF2]; exact fun h => h.2 rfl)).four
          have HSX : Hid (∀ W v L, OwnF F2 w1.heap.size wp W v L → Src W (.slice P kn p) xs) := Lib.hid fun W v L h => s1.later (on_new HO1.out (KU.out W v L h).2.2.1)
          have HSY : Hid (∀ W v L, OwnF F2 w1.heap.size wp W v L → Src W (.slice Q vn q0) ys) := Lib.hid fun W v L h => s2.later (on_new HO1.out (KU.out W v L h).2.2.1)
          rw [← hwp]
          clear hwp hBp hF2 s1 s2 c0 c1 c2 c3 i0 i1 i2
          obtain ⟨b0, b1, b2, b3⟩ := KI.out _ HM.out.2.2.1
          have HPM : Hid (∀ (W : World) (v : Value) (L : Bytes), OwnF F2 w1.heap.size wp W v L → L.length ≤ 1000 → Calls Tryz.prog 30 #[v, .int .i64 (vn : Nat), .int .i64 2] W fun e w' => ∃ v', e = .returned v' ∧ OwnF F2 w1.heap.size wp w' v' (L ++ le vn 2)) := Lib.hid fun W v L h hl => rput_f _ _ W _ v L vn 2 h (by omega) (by omega)
          go_upto_region 13 with (at_builtin; refine wpList_append_f rfl (.tmp 38) (.tmp 43) rfl _ _ rfl (HM.out.alloc _) rfl (HB1.out _) (by simp; omega) ?_; intro v1 w2 ho'; (replace HM := Lib.hid ho'); clear ho' b0 b1 b2 b3; (obtain ⟨b0, b1, b2, b3⟩ := KI.out _ HM.out.2.2.1))
          clear b0 b1 b2 b3
          have hxl : xs.length = kn := HKE.out.symm
          have hyl : ys.length = vn := HVE.out.symm
          replace HM := Lib.hid HM.out.drew
          refine wp_region_list (B := [false, false, false, false, false, false, false, false]) (S := (fun W => W.cell? ⟨wr.heap.size, 0, none⟩ = some (.slice P kn p) ∧ W.cell? ⟨wr.heap.size, 1, none⟩ = some (.slice Q vn q0) ∧ W.cell? ⟨wr.heap.size, 2, none⟩ = some (.int .i64 s) ∧ W.cell? ⟨wr.heap.size, 3, none⟩ = some (.int .i64 0))) (by kernel_rfl) (by kernel_rfl) (by kernel_rfl) (KI.out _ HM.out.2.2.1) (fun hsel hHeld => ?_)
          generalize hwz : World.drew _ = wz at HM hHeld ⊢
          clear hwz
          refine take_oneL (i := 0) (d := 48) (oi := ?_) (v := ?_) ?_ hsel (by kernel_rfl) (by kernel_rfl) (fun _ _ _ h => h) ?_ ?_ ?_ (by assumption) ?_
          case refine_3 => (simp only [List.getElem?_cons_zero]; rfl)
          case refine_4 => rfl
          case refine_5 => rfl
          case refine_6 => (intro w' hSw; (try dsimp only at hSw); go_simp; (try with_reducible rfl))
          simp only [Act.put, List.setIfInBounds_toArray, List.set_cons_zero, List.set_cons_succ]
          refine take_oneL (i := 3) (d := 51) (oi := ?_) (v := ?_) ?_ hsel (by kernel_rfl) (by kernel_rfl) (fun _ _ _ h => h) ?_ ?_ ?_ (by assumption) ?_
          case refine_3 => (simp only [List.getElem?_cons_succ, List.getElem?_cons_zero]; rfl)
          case refine_4 => rfl
          case refine_5 => rfl
          case refine_6 => (intro w' hSw; (try dsimp only at hSw); go_simp; (try with_reducible rfl))
          simp only [Act.put, List.setIfInBounds_toArray, List.set_cons_zero, List.set_cons_succ]
          refine take_oneL (i := 4) (d := 52) (oi := ?_) (v := ?_) ?_ hsel (by kernel_rfl) (by kernel_rfl) (fun _ _ _ h => h) ?_ ?_ ?_ (by assumption) ?_
          case refine_3 => (simp only [List.getElem?_cons_succ, List.getElem?_cons_zero]; rfl)
          case refine_4 => rfl
          case refine_5 => rfl
          case refine_6 => (intro w' hSw; (try dsimp only at hSw); go_simp; (try with_reducible rfl))
          simp only [Act.put, List.setIfInBounds_toArray, List.set_cons_zero, List.set_cons_succ]
          refine take_oneL (i := 5) (d := 53) (oi := ?_) (v := ?_) ?_ hsel (by kernel_rfl) (by kernel_rfl) (fun _ _ _ h => h) ?_ ?_ ?_ (by assumption) ?_
          case refine_3 => (simp only [List.getElem?_cons_succ, List.getElem?_cons_zero]; rfl)
          case refine_4 => rfl
          case refine_5 => rfl
          case refine_6 => (intro w' hSw; (try dsimp only at hSw); go_simp; (try with_reducible rfl))
          simp only [Act.put, List.setIfInBounds_toArray, List.set_cons_zero, List.set_cons_succ]
          refine wpAnyL_ready (rs := [1]) (by kernel_rfl) (by kernel_rfl) (by simp) ?_
          refine AllReadyL.cons (o := ?_) ?_ (fun K hK => ?_) AllReadyL.nil
          case refine_2 => (simp only [List.getElem?_cons_succ, List.getElem?_cons_zero]; rfl)
          go_simp
          clear hHeld
          refine hK.out _ _ (KI.out _ (HM.out.alloc _).2.2.1) (fun hHeld => ?_)
          clear hK K
          try simp only [List.set_cons_zero, List.set_cons_succ]
          refine wpAnyL_ready (rs := [2]) (by kernel_rfl) (by kernel_rfl) (by simp) ?_
          refine AllReadyL.cons (o := ?_) ?_ (fun K hK => ?_) AllReadyL.nil
          case refine_2 => (simp only [List.getElem?_cons_succ, List.getElem?_cons_zero]; rfl)
          rw [if_pos (by kernel_rfl)]
          refine wp_append_f (.tmp 48) (.tmp 49) rfl _ _ rfl (HM.out.alloc _) rfl (HB2.out _) (by simp []; omega) ?_
          intro v6 w6 ho'
          (replace HM := Lib.hid ho')
          clear ho'
          clear hHeld
          refine hK.out _ _ (KI.out _ HM.out.2.2.1) (fun hHeld => ?_)
          clear hK K
          try simp only [Act.put, List.setIfInBounds_toArray, List.set_cons_zero, List.set_cons_succ]
          refine wpAnyL_ready (rs := [6]) (by kernel_rfl) (by kernel_rfl) (by simp) ?_
          refine AllReadyL.cons (o := ?_) ?_ (fun K hK => ?_) AllReadyL.nil
          case refine_2 => (simp only [List.getElem?_cons_succ, List.getElem?_cons_zero]; rfl)
          go_simp
          (go_at_call 30; (with_reducible refine (HPM.out _ _ _ HM.out (by simp []; omega)).mono ?_); rintro ee w5 ⟨v5, rfl, hm2⟩; (replace HM := Lib.hid hm2); clear hm2)
          go_wp2_with (fail)
          clear hHeld
          refine hK.out _ _ (KI.out _ HM.out.2.2.1) (fun hHeld => ?_)
          clear hK K
          try simp only [List.set_cons_zero, List.set_cons_succ]
          refine take_oneL (i := 7) (d := 6) (oi := ?_) (v := ?_) ?_ hsel (by kernel_rfl) (by kernel_rfl) (fun _ _ _ h => h) ?_ ?_ ?_ (by assumption) ?_
          case refine_3 => (simp only [List.getElem?_cons_succ, List.getElem?_cons_zero]; rfl)
          case refine_4 => rfl
          case refine_5 => rfl
          case refine_6 => (intro w' hSw; (try dsimp only at hSw); go_simp; (try with_reducible rfl))
          simp only [Act.put, List.setIfInBounds_toArray, List.set_cons_zero, List.set_cons_succ]
          refine wpAnyL_done (by kernel_rfl) (by kernel_rfl) ?_ _
          clear hsel hHeld
          go_wp2_with (fail)
          replace HM := Lib.hid HM.out.drew
          refine wp_region_list (B := [false, false, false, false, false, false, false, false]) (S := (fun W => W.cell? ⟨wr.heap.size, 0, none⟩ = some (.slice P kn p) ∧ W.cell? ⟨wr.heap.size, 1, none⟩ = some (.slice Q vn q0) ∧ W.cell? ⟨wr.heap.size, 2, none⟩ = some (.int .i64 s) ∧ W.cell? ⟨wr.heap.size, 3, none⟩ = some (.int .i64 0))) (by kernel_rfl) (by kernel_rfl) (by kernel_rfl) (KI.out _ HM.out.2.2.1) (fun hsel hHeld => ?_)
          generalize hwz : World.drew _ = wz at HM hHeld ⊢
          clear hwz
          refine take_oneL (i := 0) (d := 55) (oi := ?_) (v := ?_) ?_ hsel (by kernel_rfl) (by kernel_rfl) (fun _ _ _ h => h) ?_ ?_ ?_ (by assumption) ?_
          case refine_3 => (simp only [List.getElem?_cons_zero]; rfl)
          case refine_4 => rfl
          case refine_5 => rfl
          case refine_6 => (intro w' hSw; (try dsimp only at hSw); go_simp; (try with_reducible rfl))
          simp only [Act.put, List.setIfInBounds_toArray, List.set_cons_zero, List.set_cons_succ]
          refine take_oneL (i := 1) (d := 56) (oi := ?_) (v := ?_) ?_ hsel (by kernel_rfl) (by kernel_rfl) (fun _ _ _ h => h) ?_ ?_ ?_ (by assumption) ?_
          case refine_3 => (simp only [List.getElem?_cons_succ, List.getElem?_cons_zero]; rfl)
          case refine_4 => rfl
          case refine_5 => rfl
          case refine_6 => (intro w' hSw; (try dsimp only at hSw); go_simp; (try with_reducible rfl))
          simp only [Act.put, List.setIfInBounds_toArray, List.set_cons_zero, List.set_cons_succ]
          refine take_oneL (i := 2) (d := 57) (oi := ?_) (v := ?_) ?_ hsel (by kernel_rfl) (by kernel_rfl) (fun _ _ _ h => h) ?_ ?_ ?_ (by assumption) ?_
          case refine_3 => (simp only [List.getElem?_cons_succ, List.getElem?_cons_zero]; rfl)
          case refine_4 => rfl
          case refine_5 => rfl
          case refine_6 => (intro w' hSw; (try dsimp only at hSw); go_simp; (try with_reducible rfl))
          simp only [Act.put, List.setIfInBounds_toArray, List.set_cons_zero, List.set_cons_succ]
          refine take_oneL (i := 4) (d := 59) (oi := ?_) (v := ?_) ?_ hsel (by kernel_rfl) (by kernel_rfl) (fun _ _ _ h => h) ?_ ?_ ?_ (by assumption) ?_
          case refine_3 => (simp only [List.getElem?_cons_succ, List.getElem?_cons_zero]; rfl)
          case refine_4 => rfl
          case refine_5 => rfl
          case refine_6 => (intro w' hSw; (try dsimp only at hSw); go_simp; (try with_reducible rfl))
          simp only [Act.put, List.setIfInBounds_toArray, List.set_cons_zero, List.set_cons_succ]
          refine take_oneL (i := 5) (d := 60) (oi := ?_) (v := ?_) ?_ hsel (by kernel_rfl) (by kernel_rfl) (fun _ _ _ h => h) ?_ ?_ ?_ (by assumption) ?_
          case refine_3 => (simp only [List.getElem?_cons_succ, List.getElem?_cons_zero]; rfl)
          case refine_4 => rfl
          case refine_5 => rfl
          case refine_6 => (intro w' hSw; (try dsimp only at hSw); go_simp; (try with_reducible rfl))
          simp only [Act.put, List.setIfInBounds_toArray, List.set_cons_zero, List.set_cons_succ]
          refine wpAnyL_ready (rs := [3]) (by kernel_rfl) (by kernel_rfl) (by simp) ?_
          refine AllReadyL.cons (o := ?_) ?_ (fun K hK => ?_) AllReadyL.nil
          case refine_2 => (simp only [List.getElem?_cons_succ, List.getElem?_cons_zero]; rfl)
          rw [if_pos (by kernel_rfl)]
          refine wp_append_f (.tmp 55) (.tmp 57) rfl _ _ rfl HM.out rfl (HSX.out _ _ _ HM.out) (by simp [le_length]; omega) ?_
          intro v6 w6 ho'
          (replace HM := Lib.hid ho')
          clear ho'
          clear hHeld
          refine hK.out _ _ (KI.out _ HM.out.2.2.1) (fun hHeld => ?_)
          clear hK K
          try simp only [Act.put, List.setIfInBounds_toArray, List.set_cons_zero, List.set_cons_succ]
          refine wpAnyL_ready (rs := [6]) (by kernel_rfl) (by kernel_rfl) (by simp) ?_
          refine AllReadyL.cons (o := ?_) ?_ (fun K hK => ?_) AllReadyL.nil
          case refine_2 => (simp only [List.getElem?_cons_succ, List.getElem?_cons_zero]; rfl)
          rw [if_pos (by kernel_rfl)]
          refine wp_append_f (.tmp 58) (.tmp 60) rfl _ _ rfl HM.out rfl (HSY.out _ _ _ HM.out) (by simp [le_length]; omega) ?_
          intro v6 w6 ho'
          (replace HM := Lib.hid ho')
          clear ho'
          clear hHeld
          refine hK.out _ _ (KI.out _ HM.out.2.2.1) (fun hHeld => ?_)
          clear hK K
          try simp only [Act.put, List.setIfInBounds_toArray, List.set_cons_zero, List.set_cons_succ]
          refine take_oneL (i := 7) (d := 6) (oi := ?_) (v := ?_) ?_ hsel (by kernel_rfl) (by kernel_rfl) (fun _ _ _ h => h) ?_ ?_ ?_ (by assumption) ?_
          case refine_3 => (simp only [List.getElem?_cons_succ, List.getElem?_cons_zero]; rfl)
          case refine_4 => rfl
          case refine_5 => rfl
          case refine_6 => (intro w' hSw; (try dsimp only at hSw); go_simp; (try with_reducible rfl))
          simp only [Act.put, List.setIfInBounds_toArray, List.set_cons_zero, List.set_cons_succ]
          refine wpAnyL_done (by kernel_rfl) (by kernel_rfl) ?_ _
          clear hsel hHeld
          have HFI := Lib.hid (KU.out _ _ _ HM.out)
          have HNX := Lib.hid (flat_snoc_ (f := serI (g : Int)) HY.out)
          have HUN : Hid (unp vn 0 = false) := Lib.hid (by unfold unp far; rw [decide_eq_false (by omega : ¬ ((0 : Int) ≠ 0 ∨ 32 < vn))]; rfl)
          go_wp2
          go_roundw
          case rel =>
            refine ⟨k + 1, by omega, by go_num, Lib.hid (hU.out.next HY.out (by simp only; rw [← HVE.out]; exact HUN.out)), Lib.hid ?_⟩
            rw [HNX.out, serI_near (by omega) (by omega), ← HT.out, hxl, hyl]
            have h := HFI.out
            simp only [List.append_assoc] at h
            exact h
          case measure => simp [intOf]; omega
      · obtain ⟨hs0, hs1, hr0, hr1⟩ := hfar hr
        obtain ⟨s, rfl⟩ : ∃ q : Nat, s = (q : Int) := ⟨s.toNat, by omega⟩
        obtain ⟨r, rfl⟩ : ∃ q : Nat, r = (q : Int) := ⟨r.toNat, by omega⟩
        have hri : ((r : Int) == 0) = false := by rw [beq_eq_false_iff_ne]; exact hr
        have HB2 : Hid (∀ W : World, Src (W.alloc (.cells #[.int .u8 1] 5)) (.slice (some ⟨W.heap.size, 0, none⟩) 1 1) [UInt8.ofNat 1]) := Lib.hid fun W => src_one W _ _ rfl
        go_upto_region 9 with (fail)
        obtain ⟨wp, hwp⟩ : ∃ wp, wp = wr.alloc (.cells #[.slice P kn p, .slice Q vn q0, .int .i64 (s : Nat), .int .i64 (r : Nat)] 67) := ⟨_, rfl⟩
        have hBp : Blk wp wr.heap.size 67 [.slice P kn p, .slice Q vn q0, .int .i64 (s : Nat), .int .i64 (r : Nat)] := by rw [hwp]; exact Blk.new wr 67 _
        obtain ⟨F2, hF2⟩ : ∃ F : Nat → Prop, F = fun j => w1.heap.size ≤ j ∧ j ≠ wr.heap.size := ⟨_, rfl⟩
        have HM : Hid (OwnF F2 w1.heap.size wp wp u6 T) := Lib.hid (by rw [hwp, hF2]; exact HR.out.box _)
        have KU : Hid (∀ W v L, OwnF F2 w1.heap.size wp W v L → OwnF (w1.heap.size ≤ ·) w1.heap.size w1 W v L) := Lib.hid fun W v L h => by rw [hwp, hF2] at h; exact HR.out.unbox h
        have KI : Hid (∀ W, Only F2 wp W → W.cell? ⟨wr.heap.size, 0, none⟩ = some (.slice P kn p) ∧ W.cell? ⟨wr.heap.size, 1, none⟩ = some (.slice Q vn q0) ∧ W.cell? ⟨wr.heap.size, 2, none⟩ = some (.int .i64 (s : Nat)) ∧ W.cell? ⟨wr.heap.size, 3, none⟩ = some (.int .i64 (r : Nat))) := Lib.hid fun W hW => (hBp.only hW (by rw [hF2]; exact fun h => h.2 rfl)).four
        have HSX : Hid (∀ W v L, OwnF F2 w1.heap.size wp W v L → Src W (.slice P kn p) xs) := Lib.hid fun W v L h => s1.later (on_new HO1.out (KU.out W v L h).2.2.1)
        have HSY : Hid (∀ W v L, OwnF F2 w1.heap.size wp W v L → Src W (.slice Q vn q0) ys) := Lib.hid fun W v L h => s2.later (on_new HO1.out (KU.out W v L h).2.2.1)
        rw [← hwp]
        clear hwp hBp hF2 s1 s2 c0 c1 c2 c3 i0 i1 i2
        obtain ⟨b0, b1, b2, b3⟩ := KI.out _ HM.out.2.2.1
        have HPM : Hid (∀ (W : World) (v : Value) (L : Bytes), OwnF F2 w1.heap.size wp W v L → L.length ≤ 1000 → Calls Tryz.prog 30 #[v, .int .i64 (s : Nat), .int .i64 2] W fun e w' => ∃ v', e = .returned v' ∧ OwnF F2 w1.heap.size wp w' v' (L ++ le s 2)) := Lib.hid fun W v L h hl => rput_f _ _ W _ v L s 2 h (by omega) (by omega)
        have HPR : Hid (∀ (W : World) (v : Value) (L : Bytes), OwnF F2 w1.heap.size wp W v L → L.length ≤ 1000 → Calls Tryz.prog 30 #[v, .int .i64 (r : Nat), .int .i64 (q : Nat)] W fun e w' => ∃ v', e = .returned v' ∧ OwnF F2 w1.heap.size wp w' v' (L ++ le r q)) := Lib.hid fun W v L h hl => rput_f _ _ W _ v L r q h (by omega) (by omega)
        go_upto_region 15 with (at_builtin; refine wpList_append_f rfl (.tmp 38) (.tmp 43) rfl _ _ rfl (HM.out.alloc _) rfl (HB1.out _) (by simp; omega) ?_; intro v1 w2 ho'; (replace HM := Lib.hid ho'); clear ho' b0 b1 b2 b3; (obtain ⟨b0, b1, b2, b3⟩ := KI.out _ HM.out.2.2.1))
        clear b0 b1 b2 b3
        have hxl : xs.length = kn := HKE.out.symm
        replace HM := Lib.hid HM.out.drew
        refine wp_region_list (B := [false, false, false, false, false, false, false]) (S := (fun W => W.cell? ⟨wr.heap.size, 0, none⟩ = some (.slice P kn p) ∧ W.cell? ⟨wr.heap.size, 1, none⟩ = some (.slice Q vn q0) ∧ W.cell? ⟨wr.heap.size, 2, none⟩ = some (.int .i64 (s : Nat)) ∧ W.cell? ⟨wr.heap.size, 3, none⟩ = some (.int .i64 (r : Nat)))) (by kernel_rfl) (by kernel_rfl) (by kernel_rfl) (KI.out _ HM.out.2.2.1) (fun hsel hHeld => ?_)
        generalize hwz : World.drew _ = wz at HM hHeld ⊢
        clear hwz
        refine take_oneL (i := 0) (d := 62) (oi := ?_) (v := ?_) ?_ hsel (by kernel_rfl) (by kernel_rfl) (fun _ _ _ h => h) ?_ ?_ ?_ (by assumption) ?_
        case refine_3 => (simp only [List.getElem?_cons_zero]; rfl)
        case refine_4 => rfl
        case refine_5 => rfl
        case refine_6 => (intro w' hSw; (try dsimp only at hSw); go_simp; (try with_reducible rfl))
        simp only [Act.put, List.setIfInBounds_toArray, List.set_cons_zero, List.set_cons_succ]
        refine take_oneL (i := 3) (d := 65) (oi := ?_) (v := ?_) ?_ hsel (by kernel_rfl) (by kernel_rfl) (fun _ _ _ h => h) ?_ ?_ ?_ (by assumption) ?_
        case refine_3 => (simp only [List.getElem?_cons_succ, List.getElem?_cons_zero]; rfl)
        case refine_4 => rfl
        case refine_5 => rfl
        case refine_6 => (intro w' hSw; (try dsimp only at hSw); go_simp; (try with_reducible rfl))
        simp only [Act.put, List.setIfInBounds_toArray, List.set_cons_zero, List.set_cons_succ]
        refine take_oneL (i := 4) (d := 66) (oi := ?_) (v := ?_) ?_ hsel (by kernel_rfl) (by kernel_rfl) (fun _ _ _ h => h) ?_ ?_ ?_ (by assumption) ?_
        case refine_3 => (simp only [List.getElem?_cons_succ, List.getElem?_cons_zero]; rfl)
        case refine_4 => rfl
        case refine_5 => rfl
        case refine_6 => (intro w' hSw; (try dsimp only at hSw); go_simp; (try with_reducible rfl))
        simp only [Act.put, List.setIfInBounds_toArray, List.set_cons_zero, List.set_cons_succ]
        refine wpAnyL_ready (rs := [1]) (by kernel_rfl) (by kernel_rfl) (by simp) ?_
        refine AllReadyL.cons (o := ?_) ?_ (fun K hK => ?_) AllReadyL.nil
        case refine_2 => (simp only [List.getElem?_cons_succ, List.getElem?_cons_zero]; rfl)
        go_simp
        clear hHeld
        refine hK.out _ _ (KI.out _ (HM.out.alloc _).2.2.1) (fun hHeld => ?_)
        clear hK K
        try simp only [List.set_cons_zero, List.set_cons_succ]
        refine wpAnyL_ready (rs := [2]) (by kernel_rfl) (by kernel_rfl) (by simp) ?_
        refine AllReadyL.cons (o := ?_) ?_ (fun K hK => ?_) AllReadyL.nil
        case refine_2 => (simp only [List.getElem?_cons_succ, List.getElem?_cons_zero]; rfl)
        rw [if_pos (by kernel_rfl)]
        refine wp_append_f (.tmp 62) (.tmp 63) rfl _ _ rfl (HM.out.alloc _) rfl (HB2.out _) (by simp []; omega) ?_
        intro v6 w6 ho'
        (replace HM := Lib.hid ho')
        clear ho'
        clear hHeld
        refine hK.out _ _ (KI.out _ HM.out.2.2.1) (fun hHeld => ?_)
        clear hK K
        try simp only [Act.put, List.setIfInBounds_toArray, List.set_cons_zero, List.set_cons_succ]
        refine wpAnyL_ready (rs := [5]) (by kernel_rfl) (by kernel_rfl) (by simp) ?_
        refine AllReadyL.cons (o := ?_) ?_ (fun K hK => ?_) AllReadyL.nil
        case refine_2 => (simp only [List.getElem?_cons_succ, List.getElem?_cons_zero]; rfl)
        go_simp
        (go_at_call 30; (with_reducible refine (HPM.out _ _ _ HM.out (by simp []; omega)).mono ?_); rintro ee w5 ⟨v5, rfl, hm2⟩; (replace HM := Lib.hid hm2); clear hm2)
        go_wp2_with (fail)
        clear hHeld
        refine hK.out _ _ (KI.out _ HM.out.2.2.1) (fun hHeld => ?_)
        clear hK K
        try simp only [List.set_cons_zero, List.set_cons_succ]
        refine take_oneL (i := 6) (d := 6) (oi := ?_) (v := ?_) ?_ hsel (by kernel_rfl) (by kernel_rfl) (fun _ _ _ h => h) ?_ ?_ ?_ (by assumption) ?_
        case refine_3 => (simp only [List.getElem?_cons_succ, List.getElem?_cons_zero]; rfl)
        case refine_4 => rfl
        case refine_5 => rfl
        case refine_6 => (intro w' hSw; (try dsimp only at hSw); go_simp; (try with_reducible rfl))
        simp only [Act.put, List.setIfInBounds_toArray, List.set_cons_zero, List.set_cons_succ]
        refine wpAnyL_done (by kernel_rfl) (by kernel_rfl) ?_ _
        clear hsel hHeld
        go_wp2_with (fail)
        replace HM := Lib.hid HM.out.drew
        refine wp_region_list (B := [false, false, false, false, false, false, false, false, false]) (S := (fun W => W.cell? ⟨wr.heap.size, 0, none⟩ = some (.slice P kn p) ∧ W.cell? ⟨wr.heap.size, 1, none⟩ = some (.slice Q vn q0) ∧ W.cell? ⟨wr.heap.size, 2, none⟩ = some (.int .i64 (s : Nat)) ∧ W.cell? ⟨wr.heap.size, 3, none⟩ = some (.int .i64 (r : Nat)))) (by kernel_rfl) (by kernel_rfl) (by kernel_rfl) (KI.out _ HM.out.2.2.1) (fun hsel hHeld => ?_)
        generalize hwz : World.drew _ = wz at HM hHeld ⊢
        clear hwz
        refine take_oneL (i := 0) (d := 68) (oi := ?_) (v := ?_) ?_ hsel (by kernel_rfl) (by kernel_rfl) (fun _ _ _ h => h) ?_ ?_ ?_ (by assumption) ?_
        case refine_3 => (simp only [List.getElem?_cons_zero]; rfl)
        case refine_4 => rfl
        case refine_5 => rfl
        case refine_6 => (intro w' hSw; (try dsimp only at hSw); go_simp; (try with_reducible rfl))
        simp only [Act.put, List.setIfInBounds_toArray, List.set_cons_zero, List.set_cons_succ]
        refine take_oneL (i := 1) (d := 69) (oi := ?_) (v := ?_) ?_ hsel (by kernel_rfl) (by kernel_rfl) (fun _ _ _ h => h) ?_ ?_ ?_ (by assumption) ?_
        case refine_3 => (simp only [List.getElem?_cons_succ, List.getElem?_cons_zero]; rfl)
        case refine_4 => rfl
        case refine_5 => rfl
        case refine_6 => (intro w' hSw; (try dsimp only at hSw); go_simp; (try with_reducible rfl))
        simp only [Act.put, List.setIfInBounds_toArray, List.set_cons_zero, List.set_cons_succ]
        refine take_oneL (i := 2) (d := 70) (oi := ?_) (v := ?_) ?_ hsel (by kernel_rfl) (by kernel_rfl) (fun _ _ _ h => h) ?_ ?_ ?_ (by assumption) ?_
        case refine_3 => (simp only [List.getElem?_cons_succ, List.getElem?_cons_zero]; rfl)
        case refine_4 => rfl
        case refine_5 => rfl
        case refine_6 => (intro w' hSw; (try dsimp only at hSw); go_simp; (try with_reducible rfl))
        simp only [Act.put, List.setIfInBounds_toArray, List.set_cons_zero, List.set_cons_succ]
        refine take_oneL (i := 4) (d := 72) (oi := ?_) (v := ?_) ?_ hsel (by kernel_rfl) (by kernel_rfl) (fun _ _ _ h => h) ?_ ?_ ?_ (by assumption) ?_
        case refine_3 => (simp only [List.getElem?_cons_succ, List.getElem?_cons_zero]; rfl)
        case refine_4 => rfl
        case refine_5 => rfl
        case refine_6 => (intro w' hSw; (try dsimp only at hSw); go_simp; (try with_reducible rfl))
        simp only [Act.put, List.setIfInBounds_toArray, List.set_cons_zero, List.set_cons_succ]
        refine take_oneL (i := 5) (d := 73) (oi := ?_) (v := ?_) ?_ hsel (by kernel_rfl) (by kernel_rfl) (fun _ _ _ h => h) ?_ ?_ ?_ (by assumption) ?_
        case refine_3 => (simp only [List.getElem?_cons_succ, List.getElem?_cons_zero]; rfl)
        case refine_4 => rfl
        case refine_5 => rfl
        case refine_6 => (intro w' hSw; (try dsimp only at hSw); go_simp; (try with_reducible rfl))
        simp only [Act.put, List.setIfInBounds_toArray, List.set_cons_zero, List.set_cons_succ]
        refine take_oneL (i := 6) (d := 74) (oi := ?_) (v := ?_) ?_ hsel (by kernel_rfl) (by kernel_rfl) (fun _ _ _ h => h) ?_ ?_ ?_ (by assumption) ?_
        case refine_3 => (simp only [List.getElem?_cons_succ, List.getElem?_cons_zero]; rfl)
        case refine_4 => rfl
        case refine_5 => rfl
        case refine_6 => (intro w' hSw; (try dsimp only at hSw); go_simp; (try with_reducible rfl))
        simp only [Act.put, List.setIfInBounds_toArray, List.set_cons_zero, List.set_cons_succ]
        refine wpAnyL_ready (rs := [3]) (by kernel_rfl) (by kernel_rfl) (by simp) ?_
        refine AllReadyL.cons (o := ?_) ?_ (fun K hK => ?_) AllReadyL.nil
        case refine_2 => (simp only [List.getElem?_cons_succ, List.getElem?_cons_zero]; rfl)
        rw [if_pos (by kernel_rfl)]
        refine wp_append_f (.tmp 68) (.tmp 70) rfl _ _ rfl HM.out rfl (HSX.out _ _ _ HM.out) (by simp [le_length]; omega) ?_
        intro v6 w6 ho'
        (replace HM := Lib.hid ho')
        clear ho'
        clear hHeld
        refine hK.out _ _ (KI.out _ HM.out.2.2.1) (fun hHeld => ?_)
        clear hK K
        try simp only [Act.put, List.setIfInBounds_toArray, List.set_cons_zero, List.set_cons_succ]
        refine wpAnyL_ready (rs := [7]) (by kernel_rfl) (by kernel_rfl) (by simp) ?_
        refine AllReadyL.cons (o := ?_) ?_ (fun K hK => ?_) AllReadyL.nil
        case refine_2 => (simp only [List.getElem?_cons_succ, List.getElem?_cons_zero]; rfl)
        go_simp
        (go_at_call 30; (with_reducible refine (HPR.out _ _ _ HM.out (by simp [le_length]; omega)).mono ?_); rintro ee w5 ⟨v5, rfl, hm2⟩; (replace HM := Lib.hid hm2); clear hm2)
        go_wp2_with (fail)
        clear hHeld
        refine hK.out _ _ (KI.out _ HM.out.2.2.1) (fun hHeld => ?_)
        clear hK K
        try simp only [List.set_cons_zero, List.set_cons_succ]
        refine take_oneL (i := 8) (d := 6) (oi := ?_) (v := ?_) ?_ hsel (by kernel_rfl) (by kernel_rfl) (fun _ _ _ h => h) ?_ ?_ ?_ (by assumption) ?_
        case refine_3 => (simp only [List.getElem?_cons_succ, List.getElem?_cons_zero]; rfl)
        case refine_4 => rfl
        case refine_5 => rfl
        case refine_6 => (intro w' hSw; (try dsimp only at hSw); go_simp; (try with_reducible rfl))
        simp only [Act.put, List.setIfInBounds_toArray, List.set_cons_zero, List.set_cons_succ]
        refine wpAnyL_done (by kernel_rfl) (by kernel_rfl) ?_ _
        clear hsel hHeld
        have HFI := Lib.hid (KU.out _ _ _ HM.out)
        have HNX := Lib.hid (flat_snoc_ (f := serI (g : Int)) HY.out)
        go_wp2
        go_roundw
        case rel =>
          refine ⟨k + 1, by omega, by go_num, Lib.hid (hU.out.next HY.out (by simp only; unfold unp; rw [decide_eq_false (by omega : ¬ (r : Int) = 0), Bool.and_false])), Lib.hid ?_⟩
          rw [HNX.out, serI_far hr (by omega), ← HT.out, hxl, HQ.out]
          have h := HFI.out
          simp only [List.append_assoc] at h
          exact h
        case measure => simp [intOf]; omega
    · obtain rfl : n = k := by omega
      have hkk : ¬ (n : Int) < (n : Int) := by omega
      have HUB : Hid (anyU x.its = false) := Lib.hid (hU.out.all (by rw [← HNL.out]; exact Nat.le_refl _))
      have HR0 : Hid (OwnF (w1.heap.size ≤ ·) w1.heap.size w1 wr u6 (x.its.flatMap (serI (g : Int)) ++ (x.kds.take 0).flatMap (serK (g : Int)))) := Lib.hid (by
        have h := HR.out
        rw [List.take_of_length_le (by rw [← HNL.out]; exact Nat.le_refl _)] at h
        simpa using h)
      clear hU HR
      go_wp2_with (fail)
      go_loopw [6, 10] (fun bv i wr => ∃ (k : Nat), k ≤ m ∧ i = .int .i64 k ∧ Hid (OwnF (w1.heap.size ≤ ·) w1.heap.size w1 wr bv (x.its.flatMap (serI (g : Int)) ++ (x.kds.take k).flatMap (serK (g : Int))))) (fun _ i _ => m - (intOf i).toNat)
      case atStart => exact ⟨0, Nat.zero_le _, rfl, HR0⟩
      case round =>
        clear HR0
        obtain ⟨k, hk, rfl, HR⟩ := hrel
        clear i0 i1 i2
        obtain ⟨i0, i1, i2⟩ := (HI.out.later HR.out.2.2.1).tri
        by_cases hlt : k < m
        · obtain ⟨T, hT⟩ : ∃ T, T = x.its.flatMap (serI (g : Int)) ++ (x.kds.take k).flatMap (serK (g : Int)) := ⟨_, rfl⟩
          rw [← hT] at HR
          have HT := Lib.hid hT
          clear hT
          obtain ⟨bb, off, y, P, p, rfl, hb, hy, c0, c1, s1⟩ := kds_at HN.out.2.2 hlt
          obtain ⟨xs, r⟩ := y
          obtain ⟨kn, hkn⟩ : ∃ t, t = xs.length := ⟨_, rfl⟩
          simp only at c0 c1 s1
          rw [← hkn] at c0 s1
          obtain ⟨hr0, hr1, hn8⟩ := HRN.out.kds _ (List.mem_of_getElem? hy)
          simp only at hn8 hr0 hr1
          rw [← hkn] at hn8
          obtain ⟨r, rfl⟩ : ∃ q : Nat, r = (q : Int) := ⟨r.toNat, by omega⟩
          have HY := Lib.hid hy
          have HKE := Lib.hid hkn
          have j1 : (0 : Int) ≤ (k : Int) := by omega
          have j2 : (k : Int) < (m : Int) := by omega
          have hwn : IntKind.u8.wrap (kn : Int) = (kn : Int) := by unfold IntKind.wrap; simp [IntKind.signed, IntKind.bits]; omega
          have HB1 : Hid (∀ W : World, Src (W.alloc (.cells #[.int .u8 (kn : Nat)] 5)) (.slice (some ⟨W.heap.size, 0, none⟩) 1 1) [UInt8.ofNat kn]) := Lib.hid fun W => src_one W _ _ (by simp; omega)
          have hTL : T.length ≤ 248 := by rw [HT.out, List.length_append]; have := flat_take_len x.kds (serK (g : Int)) k; have := HRM.out; omega
          have HM : Hid (OwnF (w1.heap.size ≤ ·) w1.heap.size w1 wr u6 T) := HR
          have KK : Hid (∀ W, Only (w1.heap.size ≤ ·) w1 W → W.cell? ⟨w.heap.size, 0, none⟩ = some (.bool f) ∧ W.cell? ⟨w.heap.size, 1, none⟩ = some (.slice A n c) ∧ W.cell? ⟨w.heap.size, 2, none⟩ = some (.slice (some ⟨bb, off, none⟩) m d) ∧ W.cell? ⟨bb, off + k * 2, none⟩ = some (.slice P kn p) ∧ W.cell? ⟨bb, off + k * 2 + 1, none⟩ = some (.int .i64 (r : Nat))) := Lib.hid fun W hW => ⟨(HI.out.later hW).tri.1, (HI.out.later hW).tri.2.1, (HI.out.later hW).tri.2.2, ((on_new HO1.out hW).cell (p := ⟨bb, off + k * 2, none⟩) (Nat.not_le.2 hb)).trans c0, ((on_new HO1.out hW).cell (p := ⟨bb, off + k * 2 + 1, none⟩) (Nat.not_le.2 hb)).trans c1⟩
          have HSX : Hid (∀ W v L, OwnF (w1.heap.size ≤ ·) w1.heap.size w1 W v L → Src W (.slice P kn p) xs) := Lib.hid fun W v L h => s1.later (on_new HO1.out h.2.2.1)
          have HPR : Hid (∀ (W : World) (v : Value) (L : Bytes), OwnF (w1.heap.size ≤ ·) w1.heap.size w1 W v L → L.length ≤ 1000 → Calls Tryz.prog 30 #[v, .int .i64 (r : Nat), .int .i64 (q : Nat)] W fun e w' => ∃ v', e = .returned v' ∧ OwnF (w1.heap.size ≤ ·) w1.heap.size w1 w' v' (L ++ le r q)) := Lib.hid fun W v L h hl => rput_f _ _ W _ v L r q h (by omega) (by omega)
          have hxl : xs.length = kn := HKE.out.symm
          clear hb hy c0 c1 s1 hkn
          go_upto_region 20 with (fail)
          clear i0 i1 i2
          replace HM := Lib.hid HM.out.drew
          refine wp_region_list (B := [false, false, false, false, false, false, false, false, false, false, false, false, false, false, false, false, false, false, false]) (S := (fun W => W.cell? ⟨w.heap.size, 0, none⟩ = some (.bool f) ∧ W.cell? ⟨w.heap.size, 1, none⟩ = some (.slice A n c) ∧ W.cell? ⟨w.heap.size, 2, none⟩ = some (.slice (some ⟨bb, off, none⟩) m d) ∧ W.cell? ⟨bb, off + k * 2, none⟩ = some (.slice P kn p) ∧ W.cell? ⟨bb, off + k * 2 + 1, none⟩ = some (.int .i64 (r : Nat)))) (by kernel_rfl) (by kernel_rfl) (by kernel_rfl) (KK.out _ HM.out.2.2.1) (fun hsel hHeld => ?_)
          generalize hwz : World.drew _ = wz at HM hHeld ⊢
          clear hwz
          refine take_oneL (i := 0) (d := 83) (oi := ?_) (v := ?_) ?_ hsel (by kernel_rfl) (by kernel_rfl) (fun _ _ _ h => h) ?_ ?_ ?_ (by assumption) ?_
          case refine_3 => (simp only [List.getElem?_cons_zero]; rfl)
          case refine_4 => rfl
          case refine_5 => rfl
          case refine_6 => (intro w' hSw; (try dsimp only at hSw); go_simp; (try with_reducible rfl))
          simp only [Act.put, List.setIfInBounds_toArray, List.set_cons_zero, List.set_cons_succ]
          refine take_oneL (i := 1) (d := 84) (oi := ?_) (v := ?_) ?_ hsel (by kernel_rfl) (by kernel_rfl) (fun _ _ _ h => h) ?_ ?_ ?_ (by assumption) ?_
          case refine_3 => (simp only [List.getElem?_cons_succ, List.getElem?_cons_zero]; rfl)
          case refine_4 => rfl
          case refine_5 => rfl
          case refine_6 => (intro w' hSw; (try dsimp only at hSw); go_simp; (try with_reducible rfl))
          simp only [Act.put, List.setIfInBounds_toArray, List.set_cons_zero, List.set_cons_succ]
          refine take_oneL (i := 2) (d := 85) (oi := ?_) (v := ?_) ?_ hsel (by kernel_rfl) (by kernel_rfl) (fun _ _ _ h => h) ?_ ?_ ?_ (by assumption) ?_
          case refine_3 => (simp only [List.getElem?_cons_succ, List.getElem?_cons_zero]; rfl)
          case refine_4 => rfl
          case refine_5 => rfl
          case refine_6 => (intro w' hSw; (try dsimp only at hSw); go_simp; (try with_reducible rfl))
          simp only [Act.put, List.setIfInBounds_toArray, List.set_cons_zero, List.set_cons_succ]
          refine take_oneL (i := 3) (d := 86) (oi := ?_) (v := ?_) ?_ hsel (by kernel_rfl) (by kernel_rfl) (fun _ _ _ h => h) ?_ ?_ ?_ (by assumption) ?_
          case refine_3 => (simp only [List.getElem?_cons_succ, List.getElem?_cons_zero]; rfl)
          case refine_4 => rfl
          case refine_5 => rfl
          case refine_6 => (intro w' hSw; (try dsimp only at hSw); go_simp; (try with_reducible rfl))
          simp only [Act.put, List.setIfInBounds_toArray, List.set_cons_zero, List.set_cons_succ]
          refine take_oneL (i := 4) (d := 87) (oi := ?_) (v := ?_) ?_ hsel (by kernel_rfl) (by kernel_rfl) (fun _ _ _ h => h) ?_ ?_ ?_ (by assumption) ?_
          case refine_3 => (simp only [List.getElem?_cons_succ, List.getElem?_cons_zero]; rfl)
          case refine_4 => rfl
          case refine_5 => rfl
          case refine_6 => (intro w' hSw; (try dsimp only at hSw); go_simp; (try with_reducible rfl))
          simp only [Act.put, List.setIfInBounds_toArray, List.set_cons_zero, List.set_cons_succ]
          refine take_oneL (i := 5) (d := 88) (oi := ?_) (v := ?_) ?_ hsel (by kernel_rfl) (by kernel_rfl) (fun _ _ _ h => h) ?_ ?_ ?_ (by assumption) ?_
          case refine_3 => (simp only [List.getElem?_cons_succ, List.getElem?_cons_zero]; rfl)
          case refine_4 => rfl
          case refine_5 => rfl
          case refine_6 => (intro w' hSw; (try dsimp only at hSw); go_simp; (try with_reducible rfl))
          simp only [Act.put, List.setIfInBounds_toArray, List.set_cons_zero, List.set_cons_succ]
          refine take_oneL (i := 6) (d := 89) (oi := ?_) (v := ?_) ?_ hsel (by kernel_rfl) (by kernel_rfl) (fun _ _ _ h => h) ?_ ?_ ?_ (by assumption) ?_
          case refine_3 => (simp only [List.getElem?_cons_succ, List.getElem?_cons_zero]; rfl)
          case refine_4 => rfl
          case refine_5 => rfl
          case refine_6 => (intro w' hSw; (try dsimp only at hSw); go_simp; (try with_reducible rfl))
          simp only [Act.put, List.setIfInBounds_toArray, List.set_cons_zero, List.set_cons_succ]
          refine take_oneL (i := 7) (d := 90) (oi := ?_) (v := ?_) ?_ hsel (by kernel_rfl) (by kernel_rfl) (fun _ _ _ h => h) ?_ ?_ ?_ (by assumption) ?_
          case refine_3 => (simp only [List.getElem?_cons_succ, List.getElem?_cons_zero]; rfl)
          case refine_4 => rfl
          case refine_5 => rfl
          case refine_6 => (intro w' hSw; (try dsimp only at hSw); go_simp; (try with_reducible rfl))
          simp only [Act.put, List.setIfInBounds_toArray, List.set_cons_zero, List.set_cons_succ]
          refine take_oneL (i := 8) (d := 91) (oi := ?_) (v := ?_) ?_ hsel (by kernel_rfl) (by kernel_rfl) (fun _ _ _ h => h) ?_ ?_ ?_ (by assumption) ?_
          case refine_3 => (simp only [List.getElem?_cons_succ, List.getElem?_cons_zero]; rfl)
          case refine_4 => rfl
          case refine_5 => rfl
          case refine_6 => (intro w' hSw; (try dsimp only at hSw); go_simp; (try with_reducible rfl))
          simp only [Act.put, List.setIfInBounds_toArray, List.set_cons_zero, List.set_cons_succ]
          refine take_oneL (i := 11) (d := 94) (oi := ?_) (v := ?_) ?_ hsel (by kernel_rfl) (by kernel_rfl) (fun _ _ _ h => h) ?_ ?_ ?_ (by assumption) ?_
          case refine_3 => (simp only [List.getElem?_cons_succ, List.getElem?_cons_zero]; rfl)
          case refine_4 => rfl
          case refine_5 => rfl
          case refine_6 => (intro w' hSw; (try dsimp only at hSw); go_simp; (try with_reducible rfl))
          simp only [Act.put, List.setIfInBounds_toArray, List.set_cons_zero, List.set_cons_succ]
          refine take_oneL (i := 12) (d := 95) (oi := ?_) (v := ?_) ?_ hsel (by kernel_rfl) (by kernel_rfl) (fun _ _ _ h => h) ?_ ?_ ?_ (by assumption) ?_
          case refine_3 => (simp only [List.getElem?_cons_succ, List.getElem?_cons_zero]; rfl)
          case refine_4 => rfl
          case refine_5 => rfl
          case refine_6 => (intro w' hSw; (try dsimp only at hSw); go_simp; (try with_reducible rfl))
          simp only [Act.put, List.setIfInBounds_toArray, List.set_cons_zero, List.set_cons_succ]
          refine take_oneL (i := 13) (d := 96) (oi := ?_) (v := ?_) ?_ hsel (by kernel_rfl) (by kernel_rfl) (fun _ _ _ h => h) ?_ ?_ ?_ (by assumption) ?_
          case refine_3 => (simp only [List.getElem?_cons_succ, List.getElem?_cons_zero]; rfl)
          case refine_4 => rfl
          case refine_5 => rfl
          case refine_6 => (intro w' hSw; (try dsimp only at hSw); go_simp; (try with_reducible rfl))
          simp only [Act.put, List.setIfInBounds_toArray, List.set_cons_zero, List.set_cons_succ]
          refine take_oneL (i := 14) (d := 97) (oi := ?_) (v := ?_) ?_ hsel (by kernel_rfl) (by kernel_rfl) (fun _ _ _ h => h) ?_ ?_ ?_ (by assumption) ?_
          case refine_3 => (simp only [List.getElem?_cons_succ, List.getElem?_cons_zero]; rfl)
          case refine_4 => rfl
          case refine_5 => rfl
          case refine_6 => (intro w' hSw; (try dsimp only at hSw); go_simp; (try with_reducible rfl))
          simp only [Act.put, List.setIfInBounds_toArray, List.set_cons_zero, List.set_cons_succ]
          refine take_oneL (i := 15) (d := 98) (oi := ?_) (v := ?_) ?_ hsel (by kernel_rfl) (by kernel_rfl) (fun _ _ _ h => h) ?_ ?_ ?_ (by assumption) ?_
          case refine_3 => (simp only [List.getElem?_cons_succ, List.getElem?_cons_zero]; rfl)
          case refine_4 => rfl
          case refine_5 => rfl
          case refine_6 => (intro w' hSw; (try dsimp only at hSw); go_simp; (try with_reducible rfl))
          simp only [Act.put, List.setIfInBounds_toArray, List.set_cons_zero, List.set_cons_succ]
          refine take_oneL (i := 16) (d := 99) (oi := ?_) (v := ?_) ?_ hsel (by kernel_rfl) (by kernel_rfl) (fun _ _ _ h => h) ?_ ?_ ?_ (by assumption) ?_
          case refine_3 => (simp only [List.getElem?_cons_succ, List.getElem?_cons_zero]; rfl)
          case refine_4 => rfl
          case refine_5 => rfl
          case refine_6 => (intro w' hSw; (try dsimp only at hSw); go_simp; (try with_reducible rfl))
          simp only [Act.put, List.setIfInBounds_toArray, List.set_cons_zero, List.set_cons_succ]
          refine wpAnyL_ready (rs := [9]) (by kernel_rfl) (by kernel_rfl) (by simp) ?_
          refine AllReadyL.cons (o := ?_) ?_ (fun K hK => ?_) AllReadyL.nil
          case refine_2 => (simp only [List.getElem?_cons_succ, List.getElem?_cons_zero]; rfl)
          go_simp
          clear hHeld
          refine hK.out _ _ (KK.out _ (HM.out.alloc _).2.2.1) (fun hHeld => ?_)
          clear hK K
          try simp only [List.set_cons_zero, List.set_cons_succ]
          refine wpAnyL_ready (rs := [10]) (by kernel_rfl) (by kernel_rfl) (by simp) ?_
          refine AllReadyL.cons (o := ?_) ?_ (fun K hK => ?_) AllReadyL.nil
          case refine_2 => (simp only [List.getElem?_cons_succ, List.getElem?_cons_zero]; rfl)
          rw [if_pos (by kernel_rfl)]
          refine wp_append_f (.tmp 83) (.tmp 92) rfl _ _ rfl (HM.out.alloc _) rfl (HB1.out _) (by simp []; omega) ?_
          intro v6 w6 ho'
          (replace HM := Lib.hid ho')
          clear ho'
          clear hHeld
          refine hK.out _ _ (KK.out _ HM.out.2.2.1) (fun hHeld => ?_)
          clear hK K
          try simp only [Act.put, List.setIfInBounds_toArray, List.set_cons_zero, List.set_cons_succ]
          refine wpAnyL_ready (rs := [17]) (by kernel_rfl) (by kernel_rfl) (by simp) ?_
          refine AllReadyL.cons (o := ?_) ?_ (fun K hK => ?_) AllReadyL.nil
          case refine_2 => (simp only [List.getElem?_cons_succ, List.getElem?_cons_zero]; rfl)
          rw [if_pos (by kernel_rfl)]
          refine wp_append_f (.tmp 93) (.tmp 99) rfl _ _ rfl HM.out rfl (HSX.out _ _ _ HM.out) (by simp []; omega) ?_
          intro v6 w6 ho'
          (replace HM := Lib.hid ho')
          clear ho'
          clear hHeld
          refine hK.out _ _ (KK.out _ HM.out.2.2.1) (fun hHeld => ?_)
          clear hK K
          try simp only [Act.put, List.setIfInBounds_toArray, List.set_cons_zero, List.set_cons_succ]
          refine take_oneL (i := 18) (d := 6) (oi := ?_) (v := ?_) ?_ hsel (by kernel_rfl) (by kernel_rfl) (fun _ _ _ h => h) ?_ ?_ ?_ (by assumption) ?_
          case refine_3 => (simp only [List.getElem?_cons_succ, List.getElem?_cons_zero]; rfl)
          case refine_4 => rfl
          case refine_5 => rfl
          case refine_6 => (intro w' hSw; (try dsimp only at hSw); go_simp; (try with_reducible rfl))
          simp only [Act.put, List.setIfInBounds_toArray, List.set_cons_zero, List.set_cons_succ]
          refine wpAnyL_done (by kernel_rfl) (by kernel_rfl) ?_ _
          clear hsel hHeld
          obtain ⟨i0, i1, i2, c0, c1⟩ := KK.out _ HM.out.2.2.1
          go_wp2_with (go_at_call 30; (with_reducible refine (HPR.out _ _ _ HM.out (by simp []; omega)).mono ?_); rintro ee w5 ⟨v5, rfl, hm2⟩; (replace HM := Lib.hid hm2); clear hm2)
          have HNX := Lib.hid (flat_snoc_ (f := serK (g : Int)) HY.out)
          go_roundw
          case rel =>
            refine ⟨k + 1, by omega, by go_num, Lib.hid ?_⟩
            rw [HNX.out, serK_one (by omega), ← List.append_assoc (x.its.flatMap (serI (g : Int))), ← HT.out, hxl, HQ.out]
            have h := HM.out
            simp only [List.append_assoc] at h ⊢
            exact h
          case measure => simp [intOf]; omega
        · obtain rfl : m = k := by omega
          have hkm : ¬ (m : Int) < (m : Int) := by omega
          replace HR : Hid (OwnF (w1.heap.size ≤ ·) w1.heap.size w1 wr u6 (x.its.flatMap (serI (g : Int)) ++ x.kds.flatMap (serK (g : Int)))) := Lib.hid (by
            have h := HR.out
            rwa [List.take_of_length_le (by rw [← HML.out]; exact Nat.le_refl _)] at h)
          cases f
          · skip
            have HWC : Hid (∀ u, Src wr u (x.its.flatMap (serI (g : Int)) ++ x.kds.flatMap (serK (g : Int))) → Calls Tryz.prog 31 #[.agg #[.int .i64 66, .int .i64 (g : Nat), .int .i64 (m : Nat), .int .i64 0], u] wr (GaveBE wr (pageB (g : Int) x) 0)) := Lib.hid fun u hu => by
              have h := rWrap_c wr ((66 : Nat) : Int) (g : Nat) (m : Nat) ((0 : Nat) : Int) u _ hu (by unfold I64; omega)
              obtain ⟨e1, e2⟩ := wrap_good (k := 66) (g := g) (n := m) (x := 0) (body := x.its.flatMap (serI (g : Int)) ++ x.kds.flatMap (serK (g : Int))) (by rw [HRN.out.1]; decide) (by unfold rwBad; have := HRN.out.room; omega) (by omega)
              rw [e1, e2] at h
              rw [pageB_wrap, ← HFX.out, if_neg (by decide), if_neg (by decide), ← HML.out]
              exact h
            go_wp2_with (go_at_call 31; (with_reducible refine (HWC.out _ HR.out.src).mono ?_); rintro ee w5 ⟨v5, rfl, hs5, ho5⟩; have HS5 := Lib.hid hs5; have HO5 := Lib.hid ho5; clear hs5 ho5)
            go_ret2
            exact ⟨true, ⟨fun _ => ⟨HRN.out, HUB.out⟩, fun _ => rfl⟩, _, rfl, HS5.out, on_new (on_new HO1.out HR.out.2.2.1) HO5.out⟩
          · skip
            have HWC : Hid (∀ u, Src wr u (x.its.flatMap (serI (g : Int)) ++ x.kds.flatMap (serK (g : Int))) → Calls Tryz.prog 31 #[.agg #[.int .i64 76, .int .i64 (g : Nat), .int .i64 (n : Nat), .int .i64 0], u] wr (GaveBE wr (pageB (g : Int) x) 0)) := Lib.hid fun u hu => by
              have h := rWrap_c wr ((76 : Nat) : Int) (g : Nat) (n : Nat) ((0 : Nat) : Int) u _ hu (by unfold I64; omega)
              obtain ⟨e1, e2⟩ := wrap_good (k := 76) (g := g) (n := n) (x := 0) (body := x.its.flatMap (serI (g : Int)) ++ x.kds.flatMap (serK (g : Int))) (by rw [HRN.out.1]; decide) (by unfold rwBad; have := HRN.out.room; omega) (by omega)
              rw [e1, e2] at h
              rw [pageB_wrap, ← HFX.out, if_pos rfl, if_pos rfl, ← HNL.out]
              exact h
            go_wp2_with (go_at_call 31; (with_reducible refine (HWC.out _ HR.out.src).mono ?_); rintro ee w5 ⟨v5, rfl, hs5, ho5⟩; have HS5 := Lib.hid hs5; have HO5 := Lib.hid ho5; clear hs5 ho5)
            go_ret2
            exact ⟨true, ⟨fun _ => ⟨HRN.out, HUB.out⟩, fun _ => rfl⟩, _, rfl, HS5.out, on_new (on_new HO1.out HR.out.2.2.1) HO5.out⟩
end Go.Proofs.YtnmfhadmkgndmaaGreatDoor
