/-
  MetaZeros: the walk.
-/
import Derived.Test.YtoghojgajpfkkaaDoorMzp
import Derived.Test.YtoghojgajpfkkaaDoorMnw
set_option linter.unusedVariables false
namespace Go.Proofs.YtoghojgajpfkkaaDoor
open Go.ChangeShapes Go.WideShapes Go.ChangeAt Go.RowKit Go.Deep

section
variable {H : Type} {enc : TypeId × Value → H} {w : World}
set_option maxRecDepth 100000 in
theorem four_arg {base : Nat} {v : Value} {d : DataW H} {p : List MemPlace} (hv : Value.okWide Tryd.prog w .any base 71 v) (h : DataW.Trod enc Tryd.prog w 0 (fun _ => true) true 71 v d p) :
    ∃ k0 k1 k2 k3 : Bool, v = .agg #[.bool k0, .bool k1, .bool k2, .bool k3] := by
  obtain ⟨fuel, hf⟩ := h
  obtain ⟨cs, rfl, hsz⟩ := okWide_array Tryd.underlying71 hv
  rw [show Tryd.prog.cellsOf 71 = 4 by kernel_rfl] at hsz
  obtain ⟨ys, n', _, _, hcl, hyl, hg⟩ := DataW.trod_array Tryd.underlying71 (show DataW.trod enc Tryd.prog w 0 (fun _ => true) true fuel 71 cs.toList = some (d, p) by simpa [Value.cells] using hf)
  rw [show Tryd.prog.cellsOf 4 = 1 by kernel_rfl] at hg
  have hl : cs.toList.length = 4 := by simpa using hsz
  have each : ∀ i, i < 4 → ∃ b : Bool, (cs.toList.drop (i * 1)).take 1 = [.bool b] := fun i hi => by
    obtain ⟨y, hy⟩ : ∃ y, ys[i]? = some y := ⟨_, List.getElem?_eq_getElem (by omega)⟩
    obtain ⟨b, e, _⟩ := DataW.trod_bool Tryd.underlying4 ((hg i hi).trans hy)
    exact ⟨b, e⟩
  obtain ⟨a0, e0⟩ := each 0 (by decide)
  obtain ⟨a1, e1⟩ := each 1 (by decide)
  obtain ⟨a2, e2⟩ := each 2 (by decide)
  obtain ⟨a3, e3⟩ := each 3 (by decide)
  refine ⟨a0, a1, a2, a3, ?_⟩
  have s : cs.toList = (cs.toList.drop (0 * 1)).take 1 ++ ((cs.toList.drop (1 * 1)).take 1 ++ ((cs.toList.drop (2 * 1)).take 1 ++ (cs.toList.drop (3 * 1)).take 1)) := by
    generalize cs.toList = l at hl
    match l, hl with
    | [_, _, _, _], _ => rfl
  rw [e0, e1, e2, e3] at s
  congr 1
  exact Array.toList_inj.1 s
end
def kk (k0 k1 k2 k3 : Bool) (j : Nat) : Bool := if j = 0 then k0 else if j = 1 then k1 else if j = 2 then k2 else k3
theorem kk_index (k0 k1 k2 k3 : Bool) (j : Nat) (hj : j < 4) (W : World) : (Instr.index 71 (.agg #[.bool k0, .bool k1, .bool k2, .bool k3]) (.int .i64 j)).run Tryd.prog W = .ok (.bool (kk k0 k1 k2 k3 j)) W := by
  rcases (by omega : j = 0 ∨ j = 1 ∨ j = 2 ∨ j = 3) with rfl | rfl | rfl | rfl <;> kernel_rfl
def zN (k0 k1 k2 k3 : Bool) (P : Bytes) : Nat → Bytes
  | 0 => z256
  | j + 1 => zstep (kk k0 k1 k2 k3 j) j P (zN k0 k1 k2 k3 P j)
theorem zN_len {k0 k1 k2 k3 : Bool} {P : Bytes} (hP : P.length = 256) : ∀ j, j ≤ 4 → (zN k0 k1 k2 k3 P j).length = 256
  | 0, _ => z256_len
  | j + 1, h => zstep_len hP (zN_len hP j (by omega)) (by omega)
theorem zN_four {k0 k1 k2 k3 : Bool} {P : Bytes} : zN k0 k1 k2 k3 P 4 = zT k0 k1 k2 k3 P := rfl
/-- The page that is filled sector by sector. -/
def Zst (w wr : World) (gb : Nat) (T : Bytes) : Prop := Blk wr gb 5 (cb T) ∧ Only (gb ≤ ·) w wr
theorem zst_no {w wr : World} {gb : Nat} {k0 k1 k2 k3 : Bool} {P : Bytes} {j : Nat} (h : Zst w wr gb (zN k0 k1 k2 k3 P j)) (hk : kk k0 k1 k2 k3 j = false) : Zst w wr gb (zN k0 k1 k2 k3 P (j + 1)) := by
  rw [zN, hk]
  exact h
theorem Zst.src {w wr : World} {gb : Nat} {T : Bytes} (h : Zst w wr gb T) (hl : T.length = 256) : Src wr (.slice (some ⟨gb, 0, none⟩) 256 256) T := by
  refine ⟨some ⟨gb, 0, none⟩, 256, by rw [hl], ?_, (fun e => by cases e), by omega, by omega⟩
  have h1 : Blk wr gb 5 (cb T ++ []) := by rw [List.append_nil]; exact h.1
  have h2 := Txt.blk (A := some ⟨gb, 0, none⟩) h1 0 T.length (by omega) (fun _ => rfl)
  rwa [List.drop_zero, List.take_length] at h2
section
variable (w : World) (hG : Gens w) (g ph t x r p l : Int) (A : Option Addr) (n c : Nat)
include hG
set_option maxRecDepth 100000 in
set_option maxHeartbeats 3200000 in
theorem mzw_none (k0 k1 k2 k3 : Bool) (hEN : ∀ W, Only (w.heap.size ≤ ·) w W → Calls Tryd.prog 26 #[.agg #[.int .i64 g, .int .i64 ph, .int .i64 t, .int .i64 x, .int .i64 r, .int .i64 p, .int .i64 l, .slice A n c]] W (GaveBE W [] 92)) : Calls Tryd.prog 11 #[.agg #[.int .i64 g, .int .i64 ph, .int .i64 t, .int .i64 x, .int .i64 r, .int .i64 p, .int .i64 l, .slice A n c], .agg #[.bool k0, .bool k1, .bool k2, .bool k3]] w (Told w (.bool true)) := by
  obtain ⟨w1, hw1⟩ : ∃ W0, W0 = w.alloc (.cells #[.int .i64 g, .int .i64 ph, .int .i64 t, .int .i64 x, .int .i64 r, .int .i64 p, .int .i64 l, .slice A n c] 52) := ⟨_, rfl⟩
  obtain ⟨w2, hw2⟩ : ∃ W0, W0 = w1.alloc (.cells #[.bool k0, .bool k1, .bool k2, .bool k3] 71) := ⟨_, rfl⟩
  have HOA : Hid (Only (w.heap.size ≤ ·) w w1) := Lib.hid (by rw [hw1]; exact (Only.refl _ w).alloc (fun _ h => h) _)
  have HOB : Hid (Only (w1.heap.size ≤ ·) w1 w2) := Lib.hid (by rw [hw2]; exact (Only.refl _ w1).alloc (fun _ h => h) _)
  have HO := Lib.hid (on_new HOA.out HOB.out)
  have HA : Hid (Blk w2 w.heap.size 52 [.int .i64 g, .int .i64 ph, .int .i64 t, .int .i64 x, .int .i64 r, .int .i64 p, .int .i64 l, .slice A n c]) := Lib.hid (by have h : Blk w1 w.heap.size 52 [.int .i64 g, .int .i64 ph, .int .i64 t, .int .i64 x, .int .i64 r, .int .i64 p, .int .i64 l, .slice A n c] := (by rw [hw1]; exact Blk.new w 52 _); exact h.later HOB.out)
  have HK : Hid (Blk w2 (w.heap.size + 1) 71 [.bool k0, .bool k1, .bool k2, .bool k3]) := Lib.hid (by have h : w1.heap.size = w.heap.size + 1 := (by rw [hw1]; simp); rw [hw2, ← h]; exact Blk.new w1 71 _)
  have HAL : Hid (∀ W, Only (w.heap.size ≤ ·) w W → Calls Tryd.prog 25 #[] W (Told W (.bool true))) := Lib.hid fun W hW => malive_c W (hG.later hW)
  have HEN := Lib.hid hEN
  clear hG hEN
  (obtain ⟨i0, i1, i2, i3, i4, i5, i6, i7⟩ := HA.out.eight)
  go_enter Tryd.func11, Tryd.ntmps11
  go_upto_region 1 with (fail)
  rw [← hw1, ← hw2]
  clear hw1 hw2 HOA HOB
  go_wp2_with (first
    | (go_at_call 26; (with_reducible refine (HEN.out _ HO.out).mono ?_); rintro ee w3 ⟨v1, rfl, hv1, ho⟩; (obtain ⟨A1, c1, rfl, _⟩ := hv1); (replace HO := Lib.hid (on_new HO.out ho)); clear ho i0 i1 i2 i3 i4 i5 i6 i7)
    | (go_at_call 25; (with_reducible refine (HAL.out _ HO.out).mono ?_); rintro ee w9 ⟨rfl, ho⟩; (replace HO := Lib.hid (on_new HO.out ho)); clear ho))
  go_ret
  exact ⟨rfl, HO.out⟩
set_option maxRecDepth 100000 in
set_option maxHeartbeats 12800000 in
theorem mzw_f (k1 k2 k3 : Bool) (P : Bytes) (hP : P.length = 256) (M : List Int) (X : Bytes) (hEN : ∀ W, Only (w.heap.size ≤ ·) w W → Calls Tryd.prog 26 #[.agg #[.int .i64 g, .int .i64 ph, .int .i64 t, .int .i64 x, .int .i64 r, .int .i64 p, .int .i64 l, .slice A n c]] W (GaveBE W P 0))
    (hDE : ∀ W v, Only (w.heap.size ≤ ·) w W → Src W v (zT false k1 k2 k3 P) → Calls Tryd.prog 32 #[v] W (GaveME W M X 90)) : Calls Tryd.prog 11 #[.agg #[.int .i64 g, .int .i64 ph, .int .i64 t, .int .i64 x, .int .i64 r, .int .i64 p, .int .i64 l, .slice A n c], .agg #[.bool false, .bool k1, .bool k2, .bool k3]] w (Told w (.bool true)) := by
  obtain ⟨w1, hw1⟩ : ∃ W0, W0 = w.alloc (.cells #[.int .i64 g, .int .i64 ph, .int .i64 t, .int .i64 x, .int .i64 r, .int .i64 p, .int .i64 l, .slice A n c] 52) := ⟨_, rfl⟩
  obtain ⟨w2, hw2⟩ : ∃ W0, W0 = w1.alloc (.cells #[.bool false, .bool k1, .bool k2, .bool k3] 71) := ⟨_, rfl⟩
  have HOA : Hid (Only (w.heap.size ≤ ·) w w1) := Lib.hid (by rw [hw1]; exact (Only.refl _ w).alloc (fun _ h => h) _)
  have HOB : Hid (Only (w1.heap.size ≤ ·) w1 w2) := Lib.hid (by rw [hw2]; exact (Only.refl _ w1).alloc (fun _ h => h) _)
  have HO := Lib.hid (on_new HOA.out HOB.out)
  have HA : Hid (Blk w2 w.heap.size 52 [.int .i64 g, .int .i64 ph, .int .i64 t, .int .i64 x, .int .i64 r, .int .i64 p, .int .i64 l, .slice A n c]) := Lib.hid (by have h : Blk w1 w.heap.size 52 [.int .i64 g, .int .i64 ph, .int .i64 t, .int .i64 x, .int .i64 r, .int .i64 p, .int .i64 l, .slice A n c] := (by rw [hw1]; exact Blk.new w 52 _); exact h.later HOB.out)
  have HK : Hid (Blk w2 (w.heap.size + 1) 71 [.bool false, .bool k1, .bool k2, .bool k3]) := Lib.hid (by have h : w1.heap.size = w.heap.size + 1 := (by rw [hw1]; simp); rw [hw2, ← h]; exact Blk.new w1 71 _)
  have HAL : Hid (∀ W, Only (w.heap.size ≤ ·) w W → Calls Tryd.prog 25 #[] W (Told W (.bool true))) := Lib.hid fun W hW => malive_c W (hG.later hW)
  have HEN := Lib.hid hEN
  have HDE := Lib.hid hDE
  have HP := Lib.hid hP
  have HX : Hid (∀ (j : Nat), j < 4 → ∀ W : World, (Instr.index 71 (.agg #[.bool false, .bool k1, .bool k2, .bool k3]) (.int .i64 j)).run Tryd.prog W = .ok (.bool (kk false k1 k2 k3 j)) W) := Lib.hid (kk_index false k1 k2 k3)
  clear hG hEN hDE
  (obtain ⟨i0, i1, i2, i3, i4, i5, i6, i7⟩ := HA.out.eight)
  go_enter Tryd.func11, Tryd.ntmps11
  go_upto_region 1 with (fail)
  rw [← hw1, ← hw2]
  clear hw1 hw2 HOA HOB
  go_upto_region 4 with (go_at_call 26; (with_reducible refine (HEN.out _ HO.out).mono ?_); rintro ee w3 ⟨v1, rfl, hv1, ho⟩; have HS0 := Lib.hid hv1; (obtain ⟨A1, c1, rfl, hs1⟩ := hv1); (replace HA := Lib.hid (HA.out.later ho)); (replace HK := Lib.hid (HK.out.later ho)); (replace HO := Lib.hid (on_new HO.out ho)); clear ho i0 i1 i2 i3 i4 i5 i6 i7; (obtain ⟨i0, i1, i2, i3, i4, i5, i6, i7⟩ := HA.out.eight))
  obtain ⟨ht1, _, hc1, hc2⟩ := hs1
  obtain ⟨ad, _, rfl, _, _⟩ := ht1.at_ (k := 0) (by rw [HP.out]; decide)
  rw [HP.out] at HS0 hc1
  clear ht1 hP
  (obtain ⟨j0, j1, j2, j3⟩ := HK.out.four)
  obtain ⟨Z, hZ⟩ : ∃ Z, Z = cb z256 := ⟨_, rfl⟩
  have hmk : ∀ W : World, (Instr.makeSlice 27 (.int .i64 256) (.int .i64 256)).run Tryd.prog W = .ok (.slice (some ⟨W.heap.size, 0, none⟩) 256 256) (W.alloc (.cells Z.toArray 5)) := fun W => by
    have e : cb z256 = List.replicate 256 z8 := cb_replicate 256
    rw [hZ, e]
    exact run_make8 256 (by omega) W
  obtain ⟨w4, hw4⟩ : ∃ W0, W0 = w3.alloc (.cells Z.toArray 5) := ⟨_, rfl⟩
  have HOD : Hid (Only (w3.heap.size ≤ ·) w3 w4) := Lib.hid (by rw [hw4]; exact (Only.refl _ w3).alloc (fun _ h => h) _)
  have HZ : Hid (Zst w3 w4 w3.heap.size (zN false k1 k2 k3 P 0)) := Lib.hid ⟨by rw [hw4, hZ]; exact Blk.new w3 5 _, HOD.out⟩
  have HZL := Lib.hid hZ
  clear hZ
  go_upto_region 5 with (fail)
  rw [← hw4]
  clear hw4 hmk HZL
  clear j0 j1 j2 j3 i0 i1 i2 i3 i4 i5 i6 i7
  obtain ⟨j0, j1, j2, j3⟩ := (HK.out.later HOD.out).four
  go_wp2
  obtain ⟨gb, hgb⟩ : ∃ gb, gb = w3.heap.size := ⟨_, rfl⟩
  rw [← hgb] at HZ ⊢
  have HGB := Lib.hid hgb
  clear hgb j0 j1 j2 j3
  go_loopw [32] (fun i wr => ∃ j : Nat, j ≤ 4 ∧ i = .int .i64 j ∧ Zst w3 wr gb (zN false k1 k2 k3 P j)) (fun i _ => 4 - (intOf i).toNat)
  case atStart => exact ⟨0, Nat.zero_le _, rfl, HZ.out⟩
  case round =>
    obtain ⟨j, hj, rfl, hzs⟩ := hrel
    have HZS := Lib.hid hzs
    clear hzs
    by_cases hlt : j < 4
    · have hix := HX.out j hlt
      cases hkj : kk false k1 k2 k3 j
      · rw [hkj] at hix
        have HKJ := Lib.hid hkj
        clear hkj
        go_wp2
        go_roundw
        case rel => exact ⟨j + 1, by omega, by go_num, zst_no HZS.out HKJ.out⟩
        case measure => simp [intOf]; omega
      · rw [hkj] at hix
        have HKJ := Lib.hid hkj
        clear hkj
        go_upto_region 9 with (fail)
        clear hix
        have hfalse : (0 : Int) ≤ (j : Int) := Int.natCast_nonneg _
        have hb0 : (0 : Int) ≤ (j : Int) * 64 := by omega
        have hb1 : (j : Int) * 64 ≤ ((j : Int) + 1) * 64 := by omega
        have hb2 : ((j : Int) + 1) * 64 ≤ 256 := by omega
        have hb4 : (0 : Int) ≤ ((j : Int) + 1) * 64 := by omega
        have hb5 : (j : Int) * 64 ≤ (j : Int) * 64 + 64 := by omega
        have hb3 : ((j : Int) + 1) * 64 ≤ (c1 : Int) := by omega
        have hck : ¬ (256 = j * 64) := by omega
        have hck1 : ¬ (c1 = j * 64) := by omega
        have HLT := Lib.hid hlt
        have HC1 := Lib.hid hc1
        have HC2 := Lib.hid hc2
        have hw1 : IntKind.i64.wrap ((j : Int) * 64) = (j : Int) * 64 := IntWalk.i64_in _ (by omega)
        have hw2 : IntKind.i64.wrap ((j : Int) + 1) = (j : Int) + 1 := IntWalk.i64_in _ (by omega)
        have hw3 : IntKind.i64.wrap (((j : Int) + 1) * 64) = ((j : Int) + 1) * 64 := IntWalk.i64_in _ (by omega)
        have hn1 : ((j : Int) * 64).toNat = j * 64 := by omega
        have hn2 : (((j : Int) + 1) * 64).toNat = j * 64 + 64 := by omega
        have hn3 : j * 64 + 64 - j * 64 = 64 := by omega
        have HSW : Hid (Src wr (.slice (some ad) 256 c1) P) := Lib.hid (HS0.out.later (by have h := HZS.out.2; rw [HGB.out] at h; exact h))
        have Hlen : Hid ((cb (sect P j)).length = Nat.min 64 64) := Lib.hid (by rw [cb_length, sect_len HP.out HLT.out]; rfl)
        have Hpos : Hid (0 < (cb (sect P j)).length → (some ⟨gb, j * 64, none⟩ : Option Addr) = some ⟨gb, j * 64, none⟩ ∧ ∃ a, some (ad.add (j * 64)) = some a ∧ ∀ i v, (cb (sect P j))[i]? = some v → wr.drew.cell? (a.add i) = some v) := Lib.hid (fun _ => ⟨rfl, _, rfl, fun i v hv => by
          obtain ⟨A', c', e, ht, _⟩ := HSW.out
          injection e with e1 e2 e3
          have hi : i < 64 := by
            have h1 := (List.getElem?_eq_some_iff.1 hv).1
            rw [cb_length, sect_len HP.out HLT.out] at h1
            exact h1
          rw [add_add]
          refine ht.src ad e1.symm (j * 64 + i) v ?_
          rw [← hv]
          unfold cb sect
          rw [List.getElem?_map, List.getElem?_map, List.getElem?_take, if_pos hi, List.getElem?_drop, Nat.mul_comm 64 j]⟩)
        have Hfit : Hid (j * 64 + (cb (sect P j)).length ≤ (cb (zN false k1 k2 k3 P j)).length) := Lib.hid (by rw [cb_length, cb_length, sect_len HP.out HLT.out, zN_len HP.out j (by have := HLT.out; omega)]; have := HLT.out; omega)
        clear hlt hc1 hc2 hj
        go_region_law (refine step_copy_splice (w := wr.drew) rfl (.tmp 43) (.tmp 50) 27 27 rfl 5 Tryd.underlying27 size8 (some ⟨gb, j * 64, none⟩) (some (ad.add (j * 64))) 64 (256 - j * 64) 64 (c1 - j * 64) (by simp [Act.eval, Act.put]) (by simp [Act.eval, Act.put]) gb (j * 64) _ 5 HZS.out.1.drew (cb (sect P j)) Hlen.out Hpos.out Hfit.out (cb_one _) gb w3 (HZS.out.2.drew.toBelow fun _ h => h) (Nat.le_refl _) ?_; intro wz HBz hbz)
        have HF : Hid (Zst w3 wz gb (zN false k1 k2 k3 P (j + 1))) := Lib.hid ⟨by
          have h := HBz.out
          have e : splice (cb (zN false k1 k2 k3 P j)) (j * 64) (cb (sect P j)) = cb (zN false k1 k2 k3 P (j + 1)) := by
            rw [zN, HKJ.out]
            unfold zstep
            rw [if_pos rfl, cb_over, Nat.mul_comm 64 j]
            rfl
          rw [e] at h
          exact h, Only.below hbz⟩
        have hj2 : j + 1 ≤ 4 := HLT.out
        clear HBz hbz Hpos Hfit Hlen HSW hw1 hw2 hw3 hn1 hn2 hn3 hb0 hb1 hb2 hb3 hb4 hb5 hck hck1
        have hlt : j < 4 := by omega
        go_wp2
        go_roundw
        case rel => exact ⟨j + 1, by omega, by go_num, HF.out⟩
        case measure => simp [intOf]; omega
    · have hge : ¬ (j : Int) < 4 := by omega
      obtain rfl : j = 4 := by omega
      have HST := Lib.hid (HZS.out.src (by rw [zN_four]; exact zT_len HP.out))
      have HW3 : Hid (Only (w3.heap.size ≤ ·) w3 wr) := Lib.hid (by have h := HZS.out.2; rw [HGB.out] at h; exact h)
      replace HA := Lib.hid (HA.out.later HW3.out)
      replace HK := Lib.hid (HK.out.later HW3.out)
      replace HO := Lib.hid (on_new HO.out HW3.out)
      clear HZS HX HS0 hge
      go_upto_region 12 with (go_at_call 32; (with_reducible refine (HDE.out _ _ HO.out HST.out).mono ?_); rintro ee w6 ⟨g', ph', t', x', r', p', l', A2, n2, c2, hM, hn2, rfl, hnw, ho⟩; have HM := Lib.hid hM; have HN2 := Lib.hid hn2; have HSD : Hid (Src (w6.alloc (.cells #[.int .i64 g', .int .i64 ph', .int .i64 t', .int .i64 x', .int .i64 r', .int .i64 p', .int .i64 l', .slice A2 n2 c2] 53)) (.slice A2 n2 c2) X) := Lib.hid (hnw.src.later ((Only.refl (w6.heap.size ≤ ·) w6).alloc (fun _ h => h) _)); have HD : Hid (Blk (w6.alloc (.cells #[.int .i64 g', .int .i64 ph', .int .i64 t', .int .i64 x', .int .i64 r', .int .i64 p', .int .i64 l', .slice A2 n2 c2] 53)) w6.heap.size 53 [.int .i64 g', .int .i64 ph', .int .i64 t', .int .i64 x', .int .i64 r', .int .i64 p', .int .i64 l', .slice A2 n2 c2]) := Lib.hid (Blk.new w6 53 _); (replace ho := ho.alloc (fun _ h => h) (.cells #[.int .i64 g', .int .i64 ph', .int .i64 t', .int .i64 x', .int .i64 r', .int .i64 p', .int .i64 l', .slice A2 n2 c2] 53)); (replace HA := Lib.hid (HA.out.later ho)); (replace HK := Lib.hid (HK.out.later ho)); (replace HO := Lib.hid (on_new HO.out ho)); clear ho hM hn2 hnw)
      (obtain ⟨j0, j1, j2, j3⟩ := HK.out.four)
      go_wp2_with (go_at_call 25; (with_reducible refine (HAL.out _ HO.out).mono ?_); rintro ee w9 ⟨rfl, ho⟩; (replace HO := Lib.hid (on_new HO.out ho)); clear ho)
      go_ret
      exact ⟨rfl, HO.out⟩
set_option maxRecDepth 100000 in
set_option maxHeartbeats 12800000 in
theorem mzw_tf (k1 k2 : Bool) (P : Bytes) (hP : P.length = 256) (M : List Int) (X : Bytes) (hEN : ∀ W, Only (w.heap.size ≤ ·) w W → Calls Tryd.prog 26 #[.agg #[.int .i64 g, .int .i64 ph, .int .i64 t, .int .i64 x, .int .i64 r, .int .i64 p, .int .i64 l, .slice A n c]] W (GaveBE W P 0))
    (hDE : ∀ W v, Only (w.heap.size ≤ ·) w W → Src W v (zT true k1 k2 false P) → Calls Tryd.prog 32 #[v] W (GaveME W M X 90)) : Calls Tryd.prog 11 #[.agg #[.int .i64 g, .int .i64 ph, .int .i64 t, .int .i64 x, .int .i64 r, .int .i64 p, .int .i64 l, .slice A n c], .agg #[.bool true, .bool k1, .bool k2, .bool false]] w (Told w (.bool true)) := by
  obtain ⟨w1, hw1⟩ : ∃ W0, W0 = w.alloc (.cells #[.int .i64 g, .int .i64 ph, .int .i64 t, .int .i64 x, .int .i64 r, .int .i64 p, .int .i64 l, .slice A n c] 52) := ⟨_, rfl⟩
  obtain ⟨w2, hw2⟩ : ∃ W0, W0 = w1.alloc (.cells #[.bool true, .bool k1, .bool k2, .bool false] 71) := ⟨_, rfl⟩
  have HOA : Hid (Only (w.heap.size ≤ ·) w w1) := Lib.hid (by rw [hw1]; exact (Only.refl _ w).alloc (fun _ h => h) _)
  have HOB : Hid (Only (w1.heap.size ≤ ·) w1 w2) := Lib.hid (by rw [hw2]; exact (Only.refl _ w1).alloc (fun _ h => h) _)
  have HO := Lib.hid (on_new HOA.out HOB.out)
  have HA : Hid (Blk w2 w.heap.size 52 [.int .i64 g, .int .i64 ph, .int .i64 t, .int .i64 x, .int .i64 r, .int .i64 p, .int .i64 l, .slice A n c]) := Lib.hid (by have h : Blk w1 w.heap.size 52 [.int .i64 g, .int .i64 ph, .int .i64 t, .int .i64 x, .int .i64 r, .int .i64 p, .int .i64 l, .slice A n c] := (by rw [hw1]; exact Blk.new w 52 _); exact h.later HOB.out)
  have HK : Hid (Blk w2 (w.heap.size + 1) 71 [.bool true, .bool k1, .bool k2, .bool false]) := Lib.hid (by have h : w1.heap.size = w.heap.size + 1 := (by rw [hw1]; simp); rw [hw2, ← h]; exact Blk.new w1 71 _)
  have HAL : Hid (∀ W, Only (w.heap.size ≤ ·) w W → Calls Tryd.prog 25 #[] W (Told W (.bool true))) := Lib.hid fun W hW => malive_c W (hG.later hW)
  have HEN := Lib.hid hEN
  have HDE := Lib.hid hDE
  have HP := Lib.hid hP
  have HX : Hid (∀ (j : Nat), j < 4 → ∀ W : World, (Instr.index 71 (.agg #[.bool true, .bool k1, .bool k2, .bool false]) (.int .i64 j)).run Tryd.prog W = .ok (.bool (kk true k1 k2 false j)) W) := Lib.hid (kk_index true k1 k2 false)
  clear hG hEN hDE
  (obtain ⟨i0, i1, i2, i3, i4, i5, i6, i7⟩ := HA.out.eight)
  go_enter Tryd.func11, Tryd.ntmps11
  go_upto_region 1 with (fail)
  rw [← hw1, ← hw2]
  clear hw1 hw2 HOA HOB
  go_upto_region 4 with (go_at_call 26; (with_reducible refine (HEN.out _ HO.out).mono ?_); rintro ee w3 ⟨v1, rfl, hv1, ho⟩; have HS0 := Lib.hid hv1; (obtain ⟨A1, c1, rfl, hs1⟩ := hv1); (replace HA := Lib.hid (HA.out.later ho)); (replace HK := Lib.hid (HK.out.later ho)); (replace HO := Lib.hid (on_new HO.out ho)); clear ho i0 i1 i2 i3 i4 i5 i6 i7; (obtain ⟨i0, i1, i2, i3, i4, i5, i6, i7⟩ := HA.out.eight))
  obtain ⟨ht1, _, hc1, hc2⟩ := hs1
  obtain ⟨ad, _, rfl, _, _⟩ := ht1.at_ (k := 0) (by rw [HP.out]; decide)
  rw [HP.out] at HS0 hc1
  clear ht1 hP
  (obtain ⟨j0, j1, j2, j3⟩ := HK.out.four)
  obtain ⟨Z, hZ⟩ : ∃ Z, Z = cb z256 := ⟨_, rfl⟩
  have hmk : ∀ W : World, (Instr.makeSlice 27 (.int .i64 256) (.int .i64 256)).run Tryd.prog W = .ok (.slice (some ⟨W.heap.size, 0, none⟩) 256 256) (W.alloc (.cells Z.toArray 5)) := fun W => by
    have e : cb z256 = List.replicate 256 z8 := cb_replicate 256
    rw [hZ, e]
    exact run_make8 256 (by omega) W
  obtain ⟨w4, hw4⟩ : ∃ W0, W0 = w3.alloc (.cells Z.toArray 5) := ⟨_, rfl⟩
  have HOD : Hid (Only (w3.heap.size ≤ ·) w3 w4) := Lib.hid (by rw [hw4]; exact (Only.refl _ w3).alloc (fun _ h => h) _)
  have HZ : Hid (Zst w3 w4 w3.heap.size (zN true k1 k2 false P 0)) := Lib.hid ⟨by rw [hw4, hZ]; exact Blk.new w3 5 _, HOD.out⟩
  have HZL := Lib.hid hZ
  clear hZ
  go_upto_region 5 with (fail)
  rw [← hw4]
  clear hw4 hmk HZL
  clear j0 j1 j2 j3 i0 i1 i2 i3 i4 i5 i6 i7
  obtain ⟨j0, j1, j2, j3⟩ := (HK.out.later HOD.out).four
  go_wp2
  obtain ⟨gb, hgb⟩ : ∃ gb, gb = w3.heap.size := ⟨_, rfl⟩
  rw [← hgb] at HZ ⊢
  have HGB := Lib.hid hgb
  clear hgb j0 j1 j2 j3
  go_loopw [32] (fun i wr => ∃ j : Nat, j ≤ 4 ∧ i = .int .i64 j ∧ Zst w3 wr gb (zN true k1 k2 false P j)) (fun i _ => 4 - (intOf i).toNat)
  case atStart => exact ⟨0, Nat.zero_le _, rfl, HZ.out⟩
  case round =>
    obtain ⟨j, hj, rfl, hzs⟩ := hrel
    have HZS := Lib.hid hzs
    clear hzs
    by_cases hlt : j < 4
    · have hix := HX.out j hlt
      cases hkj : kk true k1 k2 false j
      · rw [hkj] at hix
        have HKJ := Lib.hid hkj
        clear hkj
        go_wp2
        go_roundw
        case rel => exact ⟨j + 1, by omega, by go_num, zst_no HZS.out HKJ.out⟩
        case measure => simp [intOf]; omega
      · rw [hkj] at hix
        have HKJ := Lib.hid hkj
        clear hkj
        go_upto_region 9 with (fail)
        clear hix
        have htrue : (0 : Int) ≤ (j : Int) := Int.natCast_nonneg _
        have hb0 : (0 : Int) ≤ (j : Int) * 64 := by omega
        have hb1 : (j : Int) * 64 ≤ ((j : Int) + 1) * 64 := by omega
        have hb2 : ((j : Int) + 1) * 64 ≤ 256 := by omega
        have hb4 : (0 : Int) ≤ ((j : Int) + 1) * 64 := by omega
        have hb5 : (j : Int) * 64 ≤ (j : Int) * 64 + 64 := by omega
        have hb3 : ((j : Int) + 1) * 64 ≤ (c1 : Int) := by omega
        have hck : ¬ (256 = j * 64) := by omega
        have hck1 : ¬ (c1 = j * 64) := by omega
        have HLT := Lib.hid hlt
        have HC1 := Lib.hid hc1
        have HC2 := Lib.hid hc2
        have hw1 : IntKind.i64.wrap ((j : Int) * 64) = (j : Int) * 64 := IntWalk.i64_in _ (by omega)
        have hw2 : IntKind.i64.wrap ((j : Int) + 1) = (j : Int) + 1 := IntWalk.i64_in _ (by omega)
        have hw3 : IntKind.i64.wrap (((j : Int) + 1) * 64) = ((j : Int) + 1) * 64 := IntWalk.i64_in _ (by omega)
        have hn1 : ((j : Int) * 64).toNat = j * 64 := by omega
        have hn2 : (((j : Int) + 1) * 64).toNat = j * 64 + 64 := by omega
        have hn3 : j * 64 + 64 - j * 64 = 64 := by omega
        have HSW : Hid (Src wr (.slice (some ad) 256 c1) P) := Lib.hid (HS0.out.later (by have h := HZS.out.2; rw [HGB.out] at h; exact h))
        have Hlen : Hid ((cb (sect P j)).length = Nat.min 64 64) := Lib.hid (by rw [cb_length, sect_len HP.out HLT.out]; rfl)
        have Hpos : Hid (0 < (cb (sect P j)).length → (some ⟨gb, j * 64, none⟩ : Option Addr) = some ⟨gb, j * 64, none⟩ ∧ ∃ a, some (ad.add (j * 64)) = some a ∧ ∀ i v, (cb (sect P j))[i]? = some v → wr.drew.cell? (a.add i) = some v) := Lib.hid (fun _ => ⟨rfl, _, rfl, fun i v hv => by
          obtain ⟨A', c', e, ht, _⟩ := HSW.out
          injection e with e1 e2 e3
          have hi : i < 64 := by
            have h1 := (List.getElem?_eq_some_iff.1 hv).1
            rw [cb_length, sect_len HP.out HLT.out] at h1
            exact h1
          rw [add_add]
          refine ht.src ad e1.symm (j * 64 + i) v ?_
          rw [← hv]
          unfold cb sect
          rw [List.getElem?_map, List.getElem?_map, List.getElem?_take, if_pos hi, List.getElem?_drop, Nat.mul_comm 64 j]⟩)
        have Hfit : Hid (j * 64 + (cb (sect P j)).length ≤ (cb (zN true k1 k2 false P j)).length) := Lib.hid (by rw [cb_length, cb_length, sect_len HP.out HLT.out, zN_len HP.out j (by have := HLT.out; omega)]; have := HLT.out; omega)
        clear hlt hc1 hc2 hj
        go_region_law (refine step_copy_splice (w := wr.drew) rfl (.tmp 43) (.tmp 50) 27 27 rfl 5 Tryd.underlying27 size8 (some ⟨gb, j * 64, none⟩) (some (ad.add (j * 64))) 64 (256 - j * 64) 64 (c1 - j * 64) (by simp [Act.eval, Act.put]) (by simp [Act.eval, Act.put]) gb (j * 64) _ 5 HZS.out.1.drew (cb (sect P j)) Hlen.out Hpos.out Hfit.out (cb_one _) gb w3 (HZS.out.2.drew.toBelow fun _ h => h) (Nat.le_refl _) ?_; intro wz HBz hbz)
        have HF : Hid (Zst w3 wz gb (zN true k1 k2 false P (j + 1))) := Lib.hid ⟨by
          have h := HBz.out
          have e : splice (cb (zN true k1 k2 false P j)) (j * 64) (cb (sect P j)) = cb (zN true k1 k2 false P (j + 1)) := by
            rw [zN, HKJ.out]
            unfold zstep
            rw [if_pos rfl, cb_over, Nat.mul_comm 64 j]
            rfl
          rw [e] at h
          exact h, Only.below hbz⟩
        have hj2 : j + 1 ≤ 4 := HLT.out
        clear HBz hbz Hpos Hfit Hlen HSW hw1 hw2 hw3 hn1 hn2 hn3 hb0 hb1 hb2 hb3 hb4 hb5 hck hck1
        have hlt : j < 4 := by omega
        go_wp2
        go_roundw
        case rel => exact ⟨j + 1, by omega, by go_num, HF.out⟩
        case measure => simp [intOf]; omega
    · have hge : ¬ (j : Int) < 4 := by omega
      obtain rfl : j = 4 := by omega
      have HST := Lib.hid (HZS.out.src (by rw [zN_four]; exact zT_len HP.out))
      have HW3 : Hid (Only (w3.heap.size ≤ ·) w3 wr) := Lib.hid (by have h := HZS.out.2; rw [HGB.out] at h; exact h)
      replace HA := Lib.hid (HA.out.later HW3.out)
      replace HK := Lib.hid (HK.out.later HW3.out)
      replace HO := Lib.hid (on_new HO.out HW3.out)
      clear HZS HX HS0 hge
      go_upto_region 12 with (go_at_call 32; (with_reducible refine (HDE.out _ _ HO.out HST.out).mono ?_); rintro ee w6 ⟨g', ph', t', x', r', p', l', A2, n2, c2, hM, hn2, rfl, hnw, ho⟩; have HM := Lib.hid hM; have HN2 := Lib.hid hn2; have HSD : Hid (Src (w6.alloc (.cells #[.int .i64 g', .int .i64 ph', .int .i64 t', .int .i64 x', .int .i64 r', .int .i64 p', .int .i64 l', .slice A2 n2 c2] 53)) (.slice A2 n2 c2) X) := Lib.hid (hnw.src.later ((Only.refl (w6.heap.size ≤ ·) w6).alloc (fun _ h => h) _)); have HD : Hid (Blk (w6.alloc (.cells #[.int .i64 g', .int .i64 ph', .int .i64 t', .int .i64 x', .int .i64 r', .int .i64 p', .int .i64 l', .slice A2 n2 c2] 53)) w6.heap.size 53 [.int .i64 g', .int .i64 ph', .int .i64 t', .int .i64 x', .int .i64 r', .int .i64 p', .int .i64 l', .slice A2 n2 c2]) := Lib.hid (Blk.new w6 53 _); (replace ho := ho.alloc (fun _ h => h) (.cells #[.int .i64 g', .int .i64 ph', .int .i64 t', .int .i64 x', .int .i64 r', .int .i64 p', .int .i64 l', .slice A2 n2 c2] 53)); (replace HA := Lib.hid (HA.out.later ho)); (replace HK := Lib.hid (HK.out.later ho)); (replace HO := Lib.hid (on_new HO.out ho)); clear ho hM hn2 hnw)
      (obtain ⟨j0, j1, j2, j3⟩ := HK.out.four)
      go_wp2_with (go_at_call 25; (with_reducible refine (HAL.out _ HO.out).mono ?_); rintro ee w9 ⟨rfl, ho⟩; (replace HO := Lib.hid (on_new HO.out ho)); clear ho)
      go_ret
      exact ⟨rfl, HO.out⟩
set_option maxRecDepth 100000 in
set_option maxHeartbeats 12800000 in
theorem mzw_tt (k1 k2 : Bool) (P : Bytes) (hP : P.length = 256) (M : List Int) (X : Bytes) (hs : Src w (.slice A n c) X) (hM : M = [g, ph, t, x, r, p, l]) (hn : n = X.length) (hEN : ∀ W, Only (w.heap.size ≤ ·) w W → Calls Tryd.prog 26 #[.agg #[.int .i64 g, .int .i64 ph, .int .i64 t, .int .i64 x, .int .i64 r, .int .i64 p, .int .i64 l, .slice A n c]] W (GaveBE W P 0))
    (hDE : ∀ W v, Only (w.heap.size ≤ ·) w W → Src W v (zT true k1 k2 true P) → Calls Tryd.prog 32 #[v] W (GaveME W M X 0)) : Calls Tryd.prog 11 #[.agg #[.int .i64 g, .int .i64 ph, .int .i64 t, .int .i64 x, .int .i64 r, .int .i64 p, .int .i64 l, .slice A n c], .agg #[.bool true, .bool k1, .bool k2, .bool true]] w (Told w (.bool true)) := by
  obtain ⟨w1, hw1⟩ : ∃ W0, W0 = w.alloc (.cells #[.int .i64 g, .int .i64 ph, .int .i64 t, .int .i64 x, .int .i64 r, .int .i64 p, .int .i64 l, .slice A n c] 52) := ⟨_, rfl⟩
  obtain ⟨w2, hw2⟩ : ∃ W0, W0 = w1.alloc (.cells #[.bool true, .bool k1, .bool k2, .bool true] 71) := ⟨_, rfl⟩
  have HOA : Hid (Only (w.heap.size ≤ ·) w w1) := Lib.hid (by rw [hw1]; exact (Only.refl _ w).alloc (fun _ h => h) _)
  have HOB : Hid (Only (w1.heap.size ≤ ·) w1 w2) := Lib.hid (by rw [hw2]; exact (Only.refl _ w1).alloc (fun _ h => h) _)
  have HO := Lib.hid (on_new HOA.out HOB.out)
  have HA : Hid (Blk w2 w.heap.size 52 [.int .i64 g, .int .i64 ph, .int .i64 t, .int .i64 x, .int .i64 r, .int .i64 p, .int .i64 l, .slice A n c]) := Lib.hid (by have h : Blk w1 w.heap.size 52 [.int .i64 g, .int .i64 ph, .int .i64 t, .int .i64 x, .int .i64 r, .int .i64 p, .int .i64 l, .slice A n c] := (by rw [hw1]; exact Blk.new w 52 _); exact h.later HOB.out)
  have HK : Hid (Blk w2 (w.heap.size + 1) 71 [.bool true, .bool k1, .bool k2, .bool true]) := Lib.hid (by have h : w1.heap.size = w.heap.size + 1 := (by rw [hw1]; simp); rw [hw2, ← h]; exact Blk.new w1 71 _)
  have HAL : Hid (∀ W, Only (w.heap.size ≤ ·) w W → Calls Tryd.prog 25 #[] W (Told W (.bool true))) := Lib.hid fun W hW => malive_c W (hG.later hW)
  have HEN := Lib.hid hEN
  have HSC : Hid (∀ W, Only (w.heap.size ≤ ·) w W → Src W (.slice A n c) X) := Lib.hid fun W hW => hs.later hW
  have HXN := Lib.hid hn
  have HEQ : Hid (∀ {g' ph' t' x' r' p' l' : Int}, M = [g', ph', t', x', r', p', l'] → g = g' ∧ ph = ph' ∧ t = t' ∧ x = x' ∧ r = r' ∧ p = p' ∧ l = l') := Lib.hid fun h => by
    rw [hM] at h
    simpa using h
  clear hs hn hM
  have HDE := Lib.hid hDE
  have HP := Lib.hid hP
  have HX : Hid (∀ (j : Nat), j < 4 → ∀ W : World, (Instr.index 71 (.agg #[.bool true, .bool k1, .bool k2, .bool true]) (.int .i64 j)).run Tryd.prog W = .ok (.bool (kk true k1 k2 true j)) W) := Lib.hid (kk_index true k1 k2 true)
  clear hG hEN hDE
  (obtain ⟨i0, i1, i2, i3, i4, i5, i6, i7⟩ := HA.out.eight)
  go_enter Tryd.func11, Tryd.ntmps11
  go_upto_region 1 with (fail)
  rw [← hw1, ← hw2]
  clear hw1 hw2 HOA HOB
  go_upto_region 4 with (go_at_call 26; (with_reducible refine (HEN.out _ HO.out).mono ?_); rintro ee w3 ⟨v1, rfl, hv1, ho⟩; have HS0 := Lib.hid hv1; (obtain ⟨A1, c1, rfl, hs1⟩ := hv1); (replace HA := Lib.hid (HA.out.later ho)); (replace HK := Lib.hid (HK.out.later ho)); (replace HO := Lib.hid (on_new HO.out ho)); clear ho i0 i1 i2 i3 i4 i5 i6 i7; (obtain ⟨i0, i1, i2, i3, i4, i5, i6, i7⟩ := HA.out.eight))
  obtain ⟨ht1, _, hc1, hc2⟩ := hs1
  obtain ⟨ad, _, rfl, _, _⟩ := ht1.at_ (k := 0) (by rw [HP.out]; decide)
  rw [HP.out] at HS0 hc1
  clear ht1 hP
  (obtain ⟨j0, j1, j2, j3⟩ := HK.out.four)
  obtain ⟨Z, hZ⟩ : ∃ Z, Z = cb z256 := ⟨_, rfl⟩
  have hmk : ∀ W : World, (Instr.makeSlice 27 (.int .i64 256) (.int .i64 256)).run Tryd.prog W = .ok (.slice (some ⟨W.heap.size, 0, none⟩) 256 256) (W.alloc (.cells Z.toArray 5)) := fun W => by
    have e : cb z256 = List.replicate 256 z8 := cb_replicate 256
    rw [hZ, e]
    exact run_make8 256 (by omega) W
  obtain ⟨w4, hw4⟩ : ∃ W0, W0 = w3.alloc (.cells Z.toArray 5) := ⟨_, rfl⟩
  have HOD : Hid (Only (w3.heap.size ≤ ·) w3 w4) := Lib.hid (by rw [hw4]; exact (Only.refl _ w3).alloc (fun _ h => h) _)
  have HZ : Hid (Zst w3 w4 w3.heap.size (zN true k1 k2 true P 0)) := Lib.hid ⟨by rw [hw4, hZ]; exact Blk.new w3 5 _, HOD.out⟩
  have HZL := Lib.hid hZ
  clear hZ
  go_upto_region 5 with (fail)
  rw [← hw4]
  clear hw4 hmk HZL
  clear j0 j1 j2 j3 i0 i1 i2 i3 i4 i5 i6 i7
  obtain ⟨j0, j1, j2, j3⟩ := (HK.out.later HOD.out).four
  go_wp2
  obtain ⟨gb, hgb⟩ : ∃ gb, gb = w3.heap.size := ⟨_, rfl⟩
  rw [← hgb] at HZ ⊢
  have HGB := Lib.hid hgb
  clear hgb j0 j1 j2 j3
  go_loopw [32] (fun i wr => ∃ j : Nat, j ≤ 4 ∧ i = .int .i64 j ∧ Zst w3 wr gb (zN true k1 k2 true P j)) (fun i _ => 4 - (intOf i).toNat)
  case atStart => exact ⟨0, Nat.zero_le _, rfl, HZ.out⟩
  case round =>
    obtain ⟨j, hj, rfl, hzs⟩ := hrel
    have HZS := Lib.hid hzs
    clear hzs
    by_cases hlt : j < 4
    · have hix := HX.out j hlt
      cases hkj : kk true k1 k2 true j
      · rw [hkj] at hix
        have HKJ := Lib.hid hkj
        clear hkj
        go_wp2
        go_roundw
        case rel => exact ⟨j + 1, by omega, by go_num, zst_no HZS.out HKJ.out⟩
        case measure => simp [intOf]; omega
      · rw [hkj] at hix
        have HKJ := Lib.hid hkj
        clear hkj
        go_upto_region 9 with (fail)
        clear hix
        have htrue : (0 : Int) ≤ (j : Int) := Int.natCast_nonneg _
        have hb0 : (0 : Int) ≤ (j : Int) * 64 := by omega
        have hb1 : (j : Int) * 64 ≤ ((j : Int) + 1) * 64 := by omega
        have hb2 : ((j : Int) + 1) * 64 ≤ 256 := by omega
        have hb4 : (0 : Int) ≤ ((j : Int) + 1) * 64 := by omega
        have hb5 : (j : Int) * 64 ≤ (j : Int) * 64 + 64 := by omega
        have hb3 : ((j : Int) + 1) * 64 ≤ (c1 : Int) := by omega
        have hck : ¬ (256 = j * 64) := by omega
        have hck1 : ¬ (c1 = j * 64) := by omega
        have HLT := Lib.hid hlt
        have HC1 := Lib.hid hc1
        have HC2 := Lib.hid hc2
        have hw1 : IntKind.i64.wrap ((j : Int) * 64) = (j : Int) * 64 := IntWalk.i64_in _ (by omega)
        have hw2 : IntKind.i64.wrap ((j : Int) + 1) = (j : Int) + 1 := IntWalk.i64_in _ (by omega)
        have hw3 : IntKind.i64.wrap (((j : Int) + 1) * 64) = ((j : Int) + 1) * 64 := IntWalk.i64_in _ (by omega)
        have hn1 : ((j : Int) * 64).toNat = j * 64 := by omega
        have hn2 : (((j : Int) + 1) * 64).toNat = j * 64 + 64 := by omega
        have hn3 : j * 64 + 64 - j * 64 = 64 := by omega
        have HSW : Hid (Src wr (.slice (some ad) 256 c1) P) := Lib.hid (HS0.out.later (by have h := HZS.out.2; rw [HGB.out] at h; exact h))
        have Hlen : Hid ((cb (sect P j)).length = Nat.min 64 64) := Lib.hid (by rw [cb_length, sect_len HP.out HLT.out]; rfl)
        have Hpos : Hid (0 < (cb (sect P j)).length → (some ⟨gb, j * 64, none⟩ : Option Addr) = some ⟨gb, j * 64, none⟩ ∧ ∃ a, some (ad.add (j * 64)) = some a ∧ ∀ i v, (cb (sect P j))[i]? = some v → wr.drew.cell? (a.add i) = some v) := Lib.hid (fun _ => ⟨rfl, _, rfl, fun i v hv => by
          obtain ⟨A', c', e, ht, _⟩ := HSW.out
          injection e with e1 e2 e3
          have hi : i < 64 := by
            have h1 := (List.getElem?_eq_some_iff.1 hv).1
            rw [cb_length, sect_len HP.out HLT.out] at h1
            exact h1
          rw [add_add]
          refine ht.src ad e1.symm (j * 64 + i) v ?_
          rw [← hv]
          unfold cb sect
          rw [List.getElem?_map, List.getElem?_map, List.getElem?_take, if_pos hi, List.getElem?_drop, Nat.mul_comm 64 j]⟩)
        have Hfit : Hid (j * 64 + (cb (sect P j)).length ≤ (cb (zN true k1 k2 true P j)).length) := Lib.hid (by rw [cb_length, cb_length, sect_len HP.out HLT.out, zN_len HP.out j (by have := HLT.out; omega)]; have := HLT.out; omega)
        clear hlt hc1 hc2 hj
        go_region_law (refine step_copy_splice (w := wr.drew) rfl (.tmp 43) (.tmp 50) 27 27 rfl 5 Tryd.underlying27 size8 (some ⟨gb, j * 64, none⟩) (some (ad.add (j * 64))) 64 (256 - j * 64) 64 (c1 - j * 64) (by simp [Act.eval, Act.put]) (by simp [Act.eval, Act.put]) gb (j * 64) _ 5 HZS.out.1.drew (cb (sect P j)) Hlen.out Hpos.out Hfit.out (cb_one _) gb w3 (HZS.out.2.drew.toBelow fun _ h => h) (Nat.le_refl _) ?_; intro wz HBz hbz)
        have HF : Hid (Zst w3 wz gb (zN true k1 k2 true P (j + 1))) := Lib.hid ⟨by
          have h := HBz.out
          have e : splice (cb (zN true k1 k2 true P j)) (j * 64) (cb (sect P j)) = cb (zN true k1 k2 true P (j + 1)) := by
            rw [zN, HKJ.out]
            unfold zstep
            rw [if_pos rfl, cb_over, Nat.mul_comm 64 j]
            rfl
          rw [e] at h
          exact h, Only.below hbz⟩
        have hj2 : j + 1 ≤ 4 := HLT.out
        clear HBz hbz Hpos Hfit Hlen HSW hw1 hw2 hw3 hn1 hn2 hn3 hb0 hb1 hb2 hb3 hb4 hb5 hck hck1
        have hlt : j < 4 := by omega
        go_wp2
        go_roundw
        case rel => exact ⟨j + 1, by omega, by go_num, HF.out⟩
        case measure => simp [intOf]; omega
    · have hge : ¬ (j : Int) < 4 := by omega
      obtain rfl : j = 4 := by omega
      have HST := Lib.hid (HZS.out.src (by rw [zN_four]; exact zT_len HP.out))
      have HW3 : Hid (Only (w3.heap.size ≤ ·) w3 wr) := Lib.hid (by have h := HZS.out.2; rw [HGB.out] at h; exact h)
      replace HA := Lib.hid (HA.out.later HW3.out)
      replace HK := Lib.hid (HK.out.later HW3.out)
      replace HO := Lib.hid (on_new HO.out HW3.out)
      clear HZS HX HS0 hge
      go_upto_region 12 with (go_at_call 32; (with_reducible refine (HDE.out _ _ HO.out HST.out).mono ?_); rintro ee w6 ⟨g', ph', t', x', r', p', l', A2, n2, c2, hM, hn2, rfl, hnw, ho⟩; have HM := Lib.hid hM; have HN2 := Lib.hid hn2; have HSD : Hid (Src (w6.alloc (.cells #[.int .i64 g', .int .i64 ph', .int .i64 t', .int .i64 x', .int .i64 r', .int .i64 p', .int .i64 l', .slice A2 n2 c2] 53)) (.slice A2 n2 c2) X) := Lib.hid (hnw.src.later ((Only.refl (w6.heap.size ≤ ·) w6).alloc (fun _ h => h) _)); have HD : Hid (Blk (w6.alloc (.cells #[.int .i64 g', .int .i64 ph', .int .i64 t', .int .i64 x', .int .i64 r', .int .i64 p', .int .i64 l', .slice A2 n2 c2] 53)) w6.heap.size 53 [.int .i64 g', .int .i64 ph', .int .i64 t', .int .i64 x', .int .i64 r', .int .i64 p', .int .i64 l', .slice A2 n2 c2]) := Lib.hid (Blk.new w6 53 _); (replace ho := ho.alloc (fun _ h => h) (.cells #[.int .i64 g', .int .i64 ph', .int .i64 t', .int .i64 x', .int .i64 r', .int .i64 p', .int .i64 l', .slice A2 n2 c2] 53)); (replace HA := Lib.hid (HA.out.later ho)); (replace HK := Lib.hid (HK.out.later ho)); (replace HO := Lib.hid (on_new HO.out ho)); clear ho hM hn2 hnw)
      (obtain ⟨j0, j1, j2, j3⟩ := HK.out.four)
      obtain ⟨q1, q2, q3, q4, q5, q6, q7⟩ := HEQ.out HM.out
      subst q1 q2 q3 q4 q5 q6 q7
      obtain rfl : n2 = n := HN2.out.trans HXN.out.symm
      (obtain ⟨i0, i1, i2, i3, i4, i5, i6, i7⟩ := HA.out.eight); (obtain ⟨d0, d1, d2, d3, d4, d5, d6, d7⟩ := HD.out.eight)
      go_wp2_with (first
        | (go_at_call 25; (with_reducible refine (HAL.out _ HO.out).mono ?_); rintro ee w9 ⟨rfl, ho⟩; (replace HA := Lib.hid (HA.out.later ho)); (replace HD := Lib.hid (HD.out.later ho)); (replace HSD := Lib.hid (HSD.out.later ho)); (replace HO := Lib.hid (on_new HO.out ho)); clear ho i0 i1 i2 i3 i4 i5 i6 i7 d0 d1 d2 d3 d4 d5 d6 d7 j0 j1 j2 j3; (obtain ⟨i0, i1, i2, i3, i4, i5, i6, i7⟩ := HA.out.eight); (obtain ⟨d0, d1, d2, d3, d4, d5, d6, d7⟩ := HD.out.eight))
        | (go_at_call 33; (with_reducible refine (rmSame_eq _ g ph t x r p l A2 A n2 c2 c X HSD.out (HSC.out _ HO.out)).mono ?_); rintro ee w8 ⟨rfl, ho⟩; (replace HO := Lib.hid (on_new HO.out ho)); clear ho))
      go_ret
      exact ⟨rfl, HO.out⟩
end
theorem mzer_c (w : World) (hG : Gens w) (g ph t x r p l : Int) (A : Option Addr) (n c : Nat) (xs : Bytes) (k0 k1 k2 k3 : Bool) (hs : Src w (.slice A n c) xs) (hne : n = xs.length) (hi : ∀ u ∈ [g, ph, t, x, r, p, l], I64 u) : Calls Tryd.prog 11 #[.agg #[.int .i64 g, .int .i64 ph, .int .i64 t, .int .i64 x, .int .i64 r, .int .i64 p, .int .i64 l, .slice A n c], .agg #[.bool k0, .bool k1, .bool k2, .bool k3]] w (Told w (.bool true)) := by
  have hEN : ∀ W, Only (w.heap.size ≤ ·) w W → Calls Tryd.prog 26 #[.agg #[.int .i64 g, .int .i64 ph, .int .i64 t, .int .i64 x, .int .i64 r, .int .i64 p, .int .i64 l, .slice A n c]] W (GaveBE W (if okL [g, ph, t, x, r, p, l] xs.length = true then encB [g, ph, t, x, r, p, l] xs else []) (if okL [g, ph, t, x, r, p, l] xs.length = true then 0 else 92)) := fun W hW => MEncode_l W _ xs hi (hG.later hW) g ph t x r p l A n c rfl hne (hs.later hW)
  by_cases hok : okL [g, ph, t, x, r, p, l] xs.length = true
  · rw [if_pos hok, if_pos hok] at hEN
    obtain ⟨a1, a2, a3, a4⟩ := enc_back (g := g) (ph := ph) (t := t) (x := x) (r := r) (p := p) (l := l) (xs := xs) hok
    have hD : ∀ (k0 k1 k2 k3 : Bool) (W : World) (v : Value), Only (w.heap.size ≤ ·) w W → Src W v (zT k0 k1 k2 k3 (encB [g, ph, t, x, r, p, l] xs)) → Calls Tryd.prog 32 #[v] W (GaveME W (mdM (zT k0 k1 k2 k3 (encB [g, ph, t, x, r, p, l] xs))) (mdX (zT k0 k1 k2 k3 (encB [g, ph, t, x, r, p, l] xs))) (mdE (zT k0 k1 k2 k3 (encB [g, ph, t, x, r, p, l] xs)))) := fun k0 k1 k2 k3 W v hW hv => MDecode_c W v _ (hG.later hW) hv (by rw [zT_len a4]; decide)
    cases k0
    · refine mzw_f w hG g ph t x r p l A n c k1 k2 k3 _ a4 (mdM (zT false k1 k2 k3 (encB [g, ph, t, x, r, p, l] xs))) (mdX (zT false k1 k2 k3 (encB [g, ph, t, x, r, p, l] xs))) hEN fun W v hW hv => ?_
      have h := hD false k1 k2 k3 W v hW hv
      rwa [zT_no a4 (.inl rfl)] at h
    · cases k3
      · refine mzw_tf w hG g ph t x r p l A n c k1 k2 _ a4 (mdM (zT true k1 k2 false (encB [g, ph, t, x, r, p, l] xs))) (mdX (zT true k1 k2 false (encB [g, ph, t, x, r, p, l] xs))) hEN fun W v hW hv => ?_
        have h := hD true k1 k2 false W v hW hv
        rwa [zT_no a4 (.inr rfl)] at h
      · have hp : okP g ph t x r p l xs.length := of_decide_eq_true hok
        obtain ⟨G, PH, T, X, R, P, L, k, rfl, rfl, rfl, rfl, rfl, rfl, rfl, hN⟩ := nats_of hp
        have hz := zT_yes hN k1 k2
        refine mzw_tt w hG _ _ _ _ _ _ _ A n c k1 k2 _ a4 _ xs hs rfl hne hEN fun W v hW hv => ?_
        have h := hD true k1 k2 true W v hW hv
        rwa [hz, a1, a2, a3] at h
  · rw [if_neg hok, if_neg hok] at hEN
    exact mzw_none w hG g ph t x r p l A n c k0 k1 k2 k3 hEN
end Go.Proofs.YtoghojgajpfkkaaDoor
