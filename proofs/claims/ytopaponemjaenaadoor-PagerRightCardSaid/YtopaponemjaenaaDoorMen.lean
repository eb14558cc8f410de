/-
  Metas: Encode.
-/
import Derived.Test.YtopaponemjaenaaDoorMtb
import Derived.Test.YtopaponemjaenaaDoorMpu
import Derived.Test.YtopaponemjaenaaDoorGm
import Derived.Lib.SlBytesConst
set_option linter.unusedVariables false
namespace Go.Proofs.YtopaponemjaenaaDoor
open Go.RowKit

/-- Bytes of the call's own came back, and a number. -/
def GaveBO (w : World) (xs : Bytes) (z : Int) (e : Ending) (w' : World) : Prop := ∃ v, e = .returned (.tuple #[v, .int .i64 z]) ∧ w'.ownsRow w.heap.size 5 1 v xs.length (cb xs) ∧ Only (w.heap.size ≤ ·) w w'
theorem GaveBO.gave {w w' : World} {xs : Bytes} {z : Int} {e : Ending} (h : GaveBO w xs z e w') : GaveBE w xs z e w' := by
  obtain ⟨v, e1, h1, h2⟩ := h
  exact ⟨v, e1, Src.own h1, h2⟩
theorem Seal_t (w : World) (v : Value) (xs : Bytes) (h : Src w v xs) (hn : xs.length ≤ 65536) : Calls Tryd.prog 75 #[v, .int .i64 252] w (fun e w' => ∃ v, e = .returned v ∧ w'.ownsRow w.heap.size 5 1 v (sealB xs 252).length (cb (sealB xs 252)) ∧ Only (w.heap.size ≤ ·) w w') := by
  obtain ⟨A, c, rfl, ht, hA, hc, hm⟩ := h
  refine (Seal_c w A xs.length c xs ht (fun e => ⟨by have := hA e; omega, hA e⟩) (by omega) hc hm 252 (by decide) (by decide)).mono ?_
  rintro e w' ⟨v', rfl, hn', hb, ho⟩
  refine ⟨v', rfl, ?_, ho⟩
  rw [hn']
  exact hb
def mark4 : Bytes := [82, 71, 65, 85]
def tail4 : Bytes := [85, 65, 71, 82]
theorem lit_src (w : World) (cs : Array Value) (fz : Nat × Nat) (n : Nat) (xs : Bytes) (h : cs.toList = cb xs) (hn : xs.length = n) (hl : n ≤ 1000) : Src (w.alloc (.cells cs 5 fz)) (.slice (some ⟨w.heap.size, 0, none⟩) n n) xs := by
  subst hn
  refine ⟨_, _, rfl, ⟨rfl, fun _ => ⟨_, rfl, fun j u hu => ?_⟩⟩, (fun e => by cases e), Nat.le_refl _, by omega⟩
  rw [Addr.add_mid, Nat.zero_add, cell_of_row _ w.heap.size j cs 5 fz (heap_alloc_new w _), ← hu, ← h]
  simp
theorem src_mark4 (w : World) : Src (w.alloc (.cells #[.int .u8 82, .int .u8 71, .int .u8 65, .int .u8 85] 5 (4, 5))) (.slice (some ⟨w.heap.size, 0, none⟩) 4 4) mark4 := lit_src w _ (4, 5) 4 mark4 rfl rfl (by decide)
theorem src_tail4 (w : World) : Src (w.alloc (.cells #[.int .u8 85, .int .u8 65, .int .u8 71, .int .u8 82] 5 (4, 5))) (.slice (some ⟨w.heap.size, 0, none⟩) 4 4) tail4 := lit_src w _ (4, 5) 4 tail4 rfl rfl (by decide)
/-- The writer's way. -/
def mC1 (M : List Int) : Cur := puts ((Cur.make 256).write mark4) 1 ((M.drop 0).take 3)
def mC2 (M : List Int) (g : Int) (xs : Bytes) : Cur := (puts ((mC1 M).put xs.length 1) (tr g 4 8 8) ((M.drop 3).take 4)).write xs
def mC (M : List Int) (g : Int) (xs : Bytes) : Cur := ((mC2 M g xs).take (248 - (mC2 M g xs).at_)).write tail4
theorem puts_len (k : Int) : ∀ (M : List Int) (c : Cur), (puts c k M).b.length = c.b.length
  | [], _ => rfl
  | u :: M, c => (puts_len k M (c.put u k)).trans (Cur.put_len _ _ _)
theorem puts_wf (k : Int) : ∀ (M : List Int) {c : Cur}, c.WF → (puts c k M).WF
  | [], _, h => h
  | u :: M, _, h => puts_wf k M (h.put u k)
theorem mC2_at (M : List Int) (g : Int) (xs : Bytes) : (mC2 M g xs).at_ ≤ 256 := by
  have h1 : (mC2 M g xs).WF := (puts_wf _ _ ((puts_wf _ _ ((Cur.WF.make 256).write mark4)).put _ _)).write xs
  have h2 : (mC2 M g xs).b.length = 256 := by
    unfold mC2 mC1
    rw [Cur.write_len, puts_len, Cur.put_len, puts_len, Cur.write_len]
    show (List.replicate (size 256) (0 : UInt8)).length = 256
    rw [List.length_replicate]
    rfl
  have := h1.at_
  omega
/-- What stands while the page is written. -/
structure EncS (w : World) (bm B p q : Nat) (M : List Int) (cv : Value) (xs : Bytes) (W : World) (c : Cur) : Prop where
  ho : Only (w.heap.size ≤ ·) w W
  cells : Cells7 W bm M cv
  arr : At7 W B bm
  hold : Holds W p q 122 c
  lo : w.heap.size ≤ bm ∧ w.heap.size ≤ B ∧ bm < p ∧ bm < q ∧ B < p ∧ B < q ∧ p < W.heap.size ∧ q < W.heap.size
  s0 : Src w cv xs
section
variable {w W W' : World} {bm B p q : Nat} {M : List Int} {cv : Value} {xs : Bytes} {c c' : Cur}
theorem EncS.nb (h : EncS w bm B p q M cv xs W c) : ¬ Foot p q B := fun e => by have := h.lo; rcases e with e | e <;> omega
theorem EncS.nm (h : EncS w bm B p q M cv xs W c) : ¬ Foot p q bm := fun e => by have := h.lo; rcases e with e | e <;> omega
theorem EncS.src (h : EncS w bm B p q M cv xs W c) : Src W cv xs := h.s0.later h.ho
theorem EncS.nf (h : EncS w bm B p q M cv xs W c) : ∀ ad n c', cv = .slice (some ad) n c' → 0 < n → ¬ Foot p q ad.block := fun ad n c' e hn hf => by
  subst e
  obtain ⟨A, cx, e, ht, _⟩ := h.s0
  simp only [Value.slice.injEq] at e
  obtain ⟨rfl, rfl, rfl⟩ := e
  have h1 := ht.block hn
  have := h.lo
  rcases hf with hf | hf <;> omega
theorem EncS.nlit (h : EncS w bm B p q M cv xs W c) {k : Nat} (hk : q < k ∧ p < k) : ∀ ad n c', (Value.slice (some ⟨k, 0, none⟩) 4 4) = .slice (some ad) n c' → 0 < n → ¬ Foot p q ad.block := fun ad n c' e hn hf => by
  simp only [Value.slice.injEq, Option.some.injEq] at e
  obtain ⟨rfl, _, _⟩ := e
  rcases hf with hf | hf
  · simp only at hf; omega
  · simp only at hf; omega
theorem EncS.step (h : EncS w bm B p q M cv xs W c) (hh : Holds W' p q 122 c') (ho : Only (Foot p q) W W') : EncS w bm B p q M cv xs W' c' :=
  ⟨h.ho.trans (ho.mono fun j hj => by have := h.lo; rcases hj with e | e <;> omega), h.cells.only ho h.nm, h.arr.only ho h.nb, hh, by have := h.lo; have := ho.size; omega, h.s0⟩
theorem EncS.later (h : EncS w bm B p q M cv xs W c) (ho : Only (W.heap.size ≤ ·) W W') : EncS w bm B p q M cv xs W' c :=
  ⟨on_new h.ho ho, h.cells.only ho (by have := h.lo; omega), h.arr.only ho (by have := h.lo; omega), h.hold.later ho, by have := h.lo; have := ho.size; omega, h.s0⟩
theorem EncS.drew (h : EncS w bm B p q M cv xs W c) : EncS w bm B p q M cv xs W.drew c := h.later (Only.refl _ _).drew
theorem EncS.eight {g ph t x r pg l : Int} (h : EncS w bm B p q [g, ph, t, x, r, pg, l] cv xs W c) : W.cell? ⟨bm, 0, none⟩ = some (.int .i64 g) ∧ W.cell? ⟨bm, 7, none⟩ = some cv := ⟨h.cells.2.cell 0, h.cells.2.cell 7⟩
end
section
variable (w : World) (g ph t x r p l : Int) (A : Option Addr) (n c : Nat)
set_option maxRecDepth 100000 in
set_option maxHeartbeats 3200000 in
theorem MEncode_no (hG : Gens w) (hok : okM g ph t x r p l n = false) : Calls Tryd.prog 55 #[.agg #[.int .i64 g, .int .i64 ph, .int .i64 t, .int .i64 x, .int .i64 r, .int .i64 p, .int .i64 l, .slice A n c]] w (GaveBE w [] 92) := by
  have HO : Hid (Only (w.heap.size ≤ ·) w (w.alloc (.cells #[.int .i64 g, .int .i64 ph, .int .i64 t, .int .i64 x, .int .i64 r, .int .i64 p, .int .i64 l, .slice A n c] 36))) := Lib.hid ((Only.refl _ w).alloc (fun _ h => h) _)
  have HR : Hid (∀ W, Only (w.heap.size ≤ ·) w W → Calls Tryd.prog 37 #[.agg #[.int .i64 g, .int .i64 ph, .int .i64 t, .int .i64 x, .int .i64 r, .int .i64 p, .int .i64 l, .slice A n c]] W (Told W (.bool false))) := Lib.hid fun W hW => by have h := MRight_c W g ph t x r p l A n c (hG.later hW); rwa [hok] at h
  clear hG hok
  go_enter Tryd.func55, Tryd.ntmps55
  go_wp2_with (go_at_call 37; (with_reducible refine (HR.out _ HO.out).mono ?_); rintro ee w2 ⟨rfl, ho⟩; (replace HO := Lib.hid (on_new HO.out ho)); clear ho)
  go_ret2
  exact ⟨_, rfl, Src.nil_ _, HO.out⟩
set_option maxRecDepth 100000 in
set_option maxHeartbeats 12800000 in
theorem MEncode_own (hG : Gens w) (xs : Bytes) (hs : Src w (.slice A n c) xs) (hne : n = xs.length) (hI : ∀ u ∈ [g, ph, t, x, r, p, l], I64 u) (hok : okM g ph t x r p l n = true) (hle : (mC [g, ph, t, x, r, p, l] g xs).out.length ≤ 65536) : Calls Tryd.prog 55 #[.agg #[.int .i64 g, .int .i64 ph, .int .i64 t, .int .i64 x, .int .i64 r, .int .i64 p, .int .i64 l, .slice A n c]] w (GaveBO w (sealB (mC [g, ph, t, x, r, p, l] g xs).out 252) 0) := by
  obtain ⟨w1, hw1⟩ : ∃ W0, W0 = w.alloc (.cells #[.int .i64 g, .int .i64 ph, .int .i64 t, .int .i64 x, .int .i64 r, .int .i64 p, .int .i64 l, .slice A n c] 36) := ⟨_, rfl⟩
  have HO : Hid (Only (w.heap.size ≤ ·) w w1) := Lib.hid (by rw [hw1]; exact (Only.refl _ w).alloc (fun _ h => h) _)
  have HA : Hid (Blk w1 w.heap.size 36 [.int .i64 g, .int .i64 ph, .int .i64 t, .int .i64 x, .int .i64 r, .int .i64 p, .int .i64 l, .slice A n c]) := Lib.hid (by rw [hw1]; exact Blk.new w 36 _)
  have HR : Hid (∀ W, Only (w.heap.size ≤ ·) w W → Calls Tryd.prog 37 #[.agg #[.int .i64 g, .int .i64 ph, .int .i64 t, .int .i64 x, .int .i64 r, .int .i64 p, .int .i64 l, .slice A n c]] W (Told W (.bool true))) := Lib.hid fun W hW => by have h := MRight_c W g ph t x r p l A n c (hG.later hW); rwa [hok] at h
  have HWD : Hid (∀ W, Only (w.heap.size ≤ ·) w W → Calls Tryd.prog 71 #[.int .i64 g] W (Told W (.int .i64 (tr g 4 8 8)))) := Lib.hid fun W hW => Mwide_c W g (hG.later hW)
  have HF : Hid (∀ W b, Calls Tryd.prog 49 #[.pointer (some ⟨b, 0, none⟩)] W (Told W (.agg #[.pointer (some ⟨b, 0, none⟩), .pointer (some ⟨b, 1, none⟩), .pointer (some ⟨b, 2, none⟩), .pointer (some ⟨b, 3, none⟩), .pointer (some ⟨b, 4, none⟩), .pointer (some ⟨b, 5, none⟩), .pointer (some ⟨b, 6, none⟩)]))) := Lib.hid fun W b => fields_c W b
  have HSRC := Lib.hid hs
  have HI7 := Lib.hid hI
  have HLE := Lib.hid hle
  have HNE := Lib.hid hne
  have HIN : Hid (-9223372036854775808 ≤ ((n : Nat) : Int) ∧ ((n : Nat) : Int) ≤ 9223372036854775807) := Lib.hid (by obtain ⟨A', c', e, _, _, h1, h2⟩ := hs; simp only [Value.slice.injEq] at e; omega)
  clear hG hs hI hok hle hne
  have kc1 := fun (w : World) => Lib.run_convert_bytes_const (P := Tryd.prog) w 23 5 #[.int .u8 82, .int .u8 71, .int .u8 65, .int .u8 85] 4 4 Tryd.underlying23 Tryd.underlying5
  have kc2 := fun (w : World) => Lib.run_convert_bytes_const (P := Tryd.prog) w 23 5 #[.int .u8 85, .int .u8 65, .int .u8 71, .int .u8 82] 4 4 Tryd.underlying23 Tryd.underlying5
  obtain ⟨i0, i1, i2, i3, i4, i5, i6, i7⟩ := HA.out.eight
  go_enter Tryd.func55, Tryd.ntmps55
  go_upto_region 1 with (fail)
  rw [← hw1]
  clear hw1
  go_upto_region 3 with (go_at_call 37; (with_reducible refine (HR.out _ HO.out).mono ?_); rintro ee w2 ⟨rfl, ho⟩; (replace HA := Lib.hid (HA.out.later ho)); (replace HO := Lib.hid (on_new HO.out ho)); clear ho i0 i1 i2 i3 i4 i5 i6 i7)
  go_upto_region 4 with (go_at_call 49; (with_reducible refine (HF.out _ _).mono ?_); rintro ee w3 ⟨rfl, ho⟩; (replace HA := Lib.hid (HA.out.later ho)); (replace HO := Lib.hid (on_new HO.out ho)); clear ho)
  obtain ⟨w4, hw4⟩ : ∃ y, y = w3.alloc (.cells #[.pointer (some ⟨w.heap.size, 0, none⟩), .pointer (some ⟨w.heap.size, 1, none⟩), .pointer (some ⟨w.heap.size, 2, none⟩), .pointer (some ⟨w.heap.size, 3, none⟩), .pointer (some ⟨w.heap.size, 4, none⟩), .pointer (some ⟨w.heap.size, 5, none⟩), .pointer (some ⟨w.heap.size, 6, none⟩)] 90) := ⟨_, rfl⟩
  have HP : Hid (At7 w4 w3.heap.size w.heap.size) := Lib.hid (by rw [hw4]; exact Blk.new w3 90 _)
  replace HA : Hid (Cells7 w4 w.heap.size [g, ph, t, x, r, p, l] (.slice A n c)) := Lib.hid (by rw [hw4]; exact ⟨rfl, HA.out.alloc _⟩)
  have HLO : Hid (w.heap.size < w4.heap.size ∧ w.heap.size ≤ w3.heap.size ∧ w3.heap.size < w4.heap.size) := Lib.hid (by have := HO.out.size; rw [hw4]; simp; omega)
  replace HO : Hid (Only (w.heap.size ≤ ·) w w4) := Lib.hid (by rw [hw4]; exact HO.out.alloc (fun _ h => h) _)
  rw [← hw4]
  clear hw4
  go_upto_region 5 with (go_at_call 67; (with_reducible refine (NewWriter_c _ _).mono ?_); rintro ee w5 ⟨p', q', rfl, hp, hq, hh, ho, hqs⟩; have HS : Hid (EncS w w.heap.size w3.heap.size p' q' [g, ph, t, x, r, p, l] (.slice A n c) xs w5 (Cur.make 256)) := Lib.hid ⟨on_new HO.out ho, HA.out.only ho (by have := HLO.out; omega), HP.out.only ho (by have := HLO.out; omega), hh, by have := HLO.out; have := hh.lt; omega, HSRC.out⟩; clear hh ho hp hq hqs)
  go_upto_region 6 with (go_at_call 68; (with_reducible refine (WBytes_c _ _ _ _ (HS.out.later ((Only.refl _ _).alloc (fun _ h => h) _)).hold _ mark4 (src_mark4 _) (HS.out.nlit ⟨HS.out.lo.2.2.2.2.2.2.2, HS.out.lo.2.2.2.2.2.2.1⟩)).mono ?_); rintro ee w5 ⟨rfl, hh, ho⟩; (replace HS := Lib.hid ((HS.out.later ((Only.refl _ _).alloc (fun _ h => h) _)).step hh ho)); clear hh ho)
  go_upto_region 7 with (go_at_call 69; (with_reducible refine (put_c _ _ _ _ _ _ _ _ _ _ _ _ HS.out.hold HS.out.arr HS.out.cells HS.out.nb HS.out.nm (by decide) HI7.out).mono ?_); rintro ee w5 ⟨rfl, hh, ho⟩; (replace HS := Lib.hid (HS.out.step hh ho)); clear hh ho)
  obtain ⟨i0, i7⟩ := HS.out.eight
  go_upto_region 8 with (go_at_call 70; (with_reducible refine (Put_c _ _ _ _ HS.out.hold _ _ HIN.out.1 HIN.out.2).mono ?_); rintro ee w5 ⟨rfl, hh, ho⟩; (replace HS := Lib.hid (HS.out.step hh ho)); clear hh ho)
  clear i0 i7
  replace HS := Lib.hid HS.out.drew
  refine wp_region_list (B := [false, false, false, false, false, false]) (S := (fun W => W.cell? ⟨w.heap.size, 0, none⟩ = some (.int .i64 g))) (by kernel_rfl) (by kernel_rfl) (by kernel_rfl) HS.out.eight.1 (fun hsel hHeld => ?_)
  generalize hwz : World.drew _ = wz at HS hHeld ⊢
  clear hwz
  refine oneA 0 25 hsel (h := ?_)
  simp only [Act.put, List.setIfInBounds_toArray, List.set_cons_zero, List.set_cons_succ]
  refine oneA 1 26 hsel (h := ?_)
  simp only [Act.put, List.setIfInBounds_toArray, List.set_cons_zero, List.set_cons_succ]
  refine oneA 2 27 hsel (h := ?_)
  simp only [Act.put, List.setIfInBounds_toArray, List.set_cons_zero, List.set_cons_succ]
  refine oneA 3 28 hsel (h := ?_)
  simp only [Act.put, List.setIfInBounds_toArray, List.set_cons_zero, List.set_cons_succ]
  refine wpAnyL_ready (rs := [4]) (by kernel_rfl) (by kernel_rfl) (by simp) ?_
  refine AllReadyL.cons (o := ?_) ?_ (fun K hK => ?_) AllReadyL.nil
  case refine_2 => (simp only [List.getElem?_cons_succ, List.getElem?_cons_zero]; rfl)
  go_simp
  (go_at_call 71; (with_reducible refine (HWD.out _ HS.out.ho).mono ?_); rintro ee w5 ⟨rfl, ho⟩; (replace HS := Lib.hid (HS.out.later ho)); clear ho)
  go_wp2_with (fail)
  clear hHeld
  refine hK.out _ _ HS.out.eight.1 (fun hHeld => ?_)
  clear hK K
  try simp only [List.set_cons_zero, List.set_cons_succ]
  refine wpAnyL_ready (rs := [5]) (by kernel_rfl) (by kernel_rfl) (by simp) ?_
  refine AllReadyL.cons (o := ?_) ?_ (fun K hK => ?_) AllReadyL.nil
  case refine_2 => (simp only [List.getElem?_cons_succ, List.getElem?_cons_zero]; rfl)
  go_simp
  (go_at_call 69; (with_reducible refine (put_c _ _ _ _ _ _ _ _ _ _ _ _ HS.out.hold HS.out.arr HS.out.cells HS.out.nb HS.out.nm (by decide) HI7.out).mono ?_); rintro ee w5 ⟨rfl, hh, ho⟩; (replace HS := Lib.hid (HS.out.step hh ho)); clear hh ho)
  go_wp2_with (fail)
  clear hHeld
  refine hK.out _ _ HS.out.eight.1 (fun hHeld => ?_)
  clear hK K
  try simp only [List.set_cons_zero, List.set_cons_succ]
  refine wpAnyL_done (by kernel_rfl) (by kernel_rfl) ?_ _
  clear hsel hHeld
  obtain ⟨i0, i7⟩ := HS.out.eight
  go_upto_region 10 with (go_at_call 68; (with_reducible refine (WBytes_c _ _ _ _ HS.out.hold _ _ HS.out.src HS.out.nf).mono ?_); rintro ee w5 ⟨rfl, hh, ho⟩; (replace HS := Lib.hid (HS.out.step hh ho)); clear hh ho)
  clear i0 i7
  replace HS := Lib.hid HS.out.drew
  refine wp_region_list (B := [false, false, false, false, false, false, false, false, false]) (S := (fun _ => True)) (by kernel_rfl) (by kernel_rfl) (by kernel_rfl) trivial (fun hsel hHeld => ?_)
  generalize hwz : World.drew _ = wz at HS ⊢
  clear hwz
  refine oneA 0 35 hsel (h := ?_)
  simp only [Act.put, List.setIfInBounds_toArray, List.set_cons_zero, List.set_cons_succ]
  refine oneA 1 36 hsel (h := ?_)
  simp only [Act.put, List.setIfInBounds_toArray, List.set_cons_zero, List.set_cons_succ]
  refine oneA 2 37 hsel (h := ?_)
  simp only [Act.put, List.setIfInBounds_toArray, List.set_cons_zero, List.set_cons_succ]
  refine oneA 3 38 hsel (h := ?_)
  simp only [Act.put, List.setIfInBounds_toArray, List.set_cons_zero, List.set_cons_succ]
  refine oneA 4 39 hsel (h := ?_)
  simp only [Act.put, List.setIfInBounds_toArray, List.set_cons_zero, List.set_cons_succ]
  refine oneA 5 40 hsel (h := ?_)
  simp only [Act.put, List.setIfInBounds_toArray, List.set_cons_zero, List.set_cons_succ]
  refine wpAnyL_ready (rs := [6]) (by kernel_rfl) (by kernel_rfl) (by simp) ?_
  refine AllReadyL.cons (o := ?_) ?_ (fun K hK => ?_) AllReadyL.nil
  case refine_2 => (simp only [List.getElem?_cons_succ, List.getElem?_cons_zero]; rfl)
  go_simp
  (go_at_call 73; (with_reducible refine (At_c _ _ _ _ _ HS.out.hold).mono ?_); rintro ee w5 ⟨rfl, rfl⟩)
  go_wp2_with (fail)
  clear hHeld
  refine hK.out _ _ trivial (fun hHeld => ?_)
  clear hK K
  try simp only [List.set_cons_zero, List.set_cons_succ]
  refine oneA 7 42 hsel (h := ?_)
  simp only [Act.put, List.setIfInBounds_toArray, List.set_cons_zero, List.set_cons_succ]
  refine wpAnyL_ready (rs := [8]) (by kernel_rfl) (by kernel_rfl) (by simp) ?_
  refine AllReadyL.cons (o := ?_) ?_ (fun K hK => ?_) AllReadyL.nil
  case refine_2 => (simp only [List.getElem?_cons_succ, List.getElem?_cons_zero]; rfl)
  go_simp
  (go_at_call 72; (with_reducible refine (Skip_c _ _ _ _ _ HS.out.hold _).mono ?_); rintro ee w5 ⟨rfl, hh, ho⟩; (replace HS := Lib.hid (HS.out.step hh (ho.mono fun _ h => .inl h))); clear hh ho)
  go_wp2_with (fail)
  clear hHeld
  refine hK.out _ _ trivial (fun hHeld => ?_)
  clear hK K
  try simp only [List.set_cons_zero, List.set_cons_succ]
  refine wpAnyL_done (by kernel_rfl) (by kernel_rfl) ?_ _
  clear hsel hHeld
  go_upto_region 12 with (go_at_call 68; (with_reducible refine (WBytes_c _ _ _ _ (HS.out.later ((Only.refl _ _).alloc (fun _ h => h) _)).hold _ tail4 (src_tail4 _) (HS.out.nlit ⟨HS.out.lo.2.2.2.2.2.2.2, HS.out.lo.2.2.2.2.2.2.1⟩)).mono ?_); rintro ee w5 ⟨rfl, hh, ho⟩; (replace HS := Lib.hid ((HS.out.later ((Only.refl _ _).alloc (fun _ h => h) _)).step hh ho)); clear hh ho)
  have HWR : Hid (IntKind.i64.wrap (248 - ((mC2 [g, ph, t, x, r, p, l] g xs).at_ : Int)) = 248 - ((mC2 [g, ph, t, x, r, p, l] g xs).at_ : Int)) := Lib.hid (IntWalk.i64_in _ (by have := mC2_at [g, ph, t, x, r, p, l] g xs; omega))
  obtain ⟨C, hC⟩ : ∃ C, C = mC [g, ph, t, x, r, p, l] g xs := ⟨_, rfl⟩
  have HS2 : Hid (EncS w w.heap.size w3.heap.size p' q' [g, ph, t, x, r, p, l] (.slice A n c) xs w5 C) := Lib.hid (by
    have h := HS.out
    rw [hC]
    unfold mC
    rw [← HWR.out]
    have e := HNE.out
    subst e
    exact h)
  rw [← hC] at HLE
  have HCE := Lib.hid hC
  clear hC HS HWR
  go_wp2_with (first
    | (go_at_call 74; (with_reducible refine (Done_c _ _ _ _ HS2.out.hold).mono ?_); rintro ee w6 ⟨v, rfl, hsv, ho⟩; have HV := Lib.hid hsv; have HO6 := Lib.hid (on_new HS2.out.ho ho); clear hsv ho)
    | (go_at_call 75; (with_reducible refine (Seal_t _ _ _ HV.out HLE.out).mono ?_); rintro ee w7 ⟨v7, rfl, hsv, ho⟩; have HV7 := Lib.hid hsv; have HSZ : Hid (w.heap.size ≤ w6.heap.size) := Lib.hid HO6.out.size; (replace HO6 := Lib.hid (on_new HO6.out ho)); clear hsv ho))
  go_ret2
  exact ⟨v7, rfl, by rw [← HCE.out]; exact HV7.out.mono HSZ.out, HO6.out⟩
theorem MEncode_yes (hG : Gens w) (xs : Bytes) (hs : Src w (.slice A n c) xs) (hne : n = xs.length) (hI : ∀ u ∈ [g, ph, t, x, r, p, l], I64 u) (hok : okM g ph t x r p l n = true) (hle : (mC [g, ph, t, x, r, p, l] g xs).out.length ≤ 65536) : Calls Tryd.prog 55 #[.agg #[.int .i64 g, .int .i64 ph, .int .i64 t, .int .i64 x, .int .i64 r, .int .i64 p, .int .i64 l, .slice A n c]] w (GaveBE w (sealB (mC [g, ph, t, x, r, p, l] g xs).out 252) 0) := (MEncode_own w g ph t x r p l A n c hG xs hs hne hI hok hle).mono fun _ _ h => h.gave
end
end Go.Proofs.YtopaponemjaenaaDoor
