/-
  HeadOf of the program.
-/
import Derived.Test.YtbgnfocfnjlabaaDoorPfi
import Derived.Test.YtbgnfocfnjlabaaDoorGc
import Derived.Test.YtbgnfocfnjlabaaDoorGa
import Derived.Test.YtbgnfocfnjlabaaDoorGb
import Derived.Deep.CutRange
set_option linter.unusedVariables false
namespace Go.Proofs.YtbgnfocfnjlabaaDoor
open Go.RowKit

theorem results_cell_tmp {fn : Func} {P : Program} {p t : Tmp} {ty : TypeId} {tmps : Array Value} {w : World} {a : Addr} {v : Value} (h : fn.results = #[.cell p ty, .tmp t]) (ha : tmps.getD p undef = .pointer (some a)) (hl : (loadVar ty a).run P w = .ok v w) :
    (results fn tmps).run P w = .ok (.tuple #[v, tmps.getD t undef]) w := by
  rw [Array.getD_eq_getD_getElem?] at ha
  simp only [results, h]
  simp [ha, asAddr, hl]
theorem load_head {w : World} {g : Nat} {k x n y : Int} (h : Blk w g 57 [.int .i64 k, .int .i64 x, .int .i64 n, .int .i64 y]) : (loadVar 57 ⟨g, 0, none⟩).run Tryd.prog w = .ok (.agg #[.int .i64 k, .int .i64 x, .int .i64 n, .int .i64 y]) w := by
  have hl := run_loadCells_list (P := Tryd.prog) w ⟨g, 0, none⟩ [.int .i64 k, .int .i64 x, .int .i64 n, .int .i64 y] (fun j u hu => by rw [Addr.add_lit, h.cell, Nat.zero_add]; exact hu)
  simp only [List.length_cons, List.length_nil] at hl
  simp [loadVar, hl]
/-- What HeadOf answers. -/
def hdBad (z : Int) : Value := .tuple #[.agg #[.int .i64 0, .int .i64 0, .int .i64 0, .int .i64 0], .int .i64 z]
def hdC (b : Bytes) (g : Int) : Cur := (((Cur.new (b.take (min b.length (tr g 8 16 16).toNat))).take 2).get 2).take (gap g)
def hdCnt (b : Bytes) (g : Int) : Nat := ((Cur.new (b.take (min b.length (tr g 8 16 16).toNat))).take 2).val 2
def hdV (b : Bytes) : Value := match b with
  | x0 :: x1 :: _ =>
    let k : Int := x0.toNat
    let g : Int := x1.toNat
    if b.length < 4 then hdBad 70 else if (kindOk k && gen g) = true then
      (if ((hdC b g).get (tr g 4 8 8)).sp = true then hdBad 72 else .tuple #[.agg #[.int .i64 k, .int .i64 g, .int .i64 (hdCnt b g), .int .i64 ((hdC b g).val (tr g 4 8 8))], .int .i64 0])
      else hdBad 70
  | _ => hdBad 70
theorem hdV_four (x0 x1 x2 x3 : UInt8) (r : Bytes) : hdV (x0 :: x1 :: x2 :: x3 :: r) = if (kindOk (x0.toNat : Int) && gen (x1.toNat : Int)) = true then
      (if ((hdC (x0 :: x1 :: x2 :: x3 :: r) x1.toNat).get (tr x1.toNat 4 8 8)).sp = true then hdBad 72 else .tuple #[.agg #[.int .i64 x0.toNat, .int .i64 x1.toNat, .int .i64 (hdCnt (x0 :: x1 :: x2 :: x3 :: r) x1.toNat), .int .i64 ((hdC (x0 :: x1 :: x2 :: x3 :: r) x1.toNat).val (tr x1.toNat 4 8 8))], .int .i64 0])
      else hdBad 70 := by
  unfold hdV
  exact if_neg (by simp only [List.length_cons]; omega)
set_option maxRecDepth 100000 in
set_option maxHeartbeats 6400000 in
theorem HeadOf_c (w : World) (v : Value) (b : Bytes) (hG : Gens w) (h : Src w v b) (hn : b.length ≤ 65536) :
    Calls Tryd.prog 28 #[v] w (Told w (hdV b)) := by
  have HS := Lib.hid h
  obtain ⟨A, cap, rfl, ht, hA, hc, hm⟩ := h
  obtain ⟨n, hne⟩ : ∃ n, n = b.length := ⟨_, rfl⟩
  rw [← hne] at ht hc HS ⊢
  by_cases h4 : n < 4
  · have h4i : (n : Int) < 4 := by omega
    have hv : hdV b = hdBad 70 := by
      unfold hdV
      split
      · rw [if_pos (by rw [← hne]; exact h4)]
      · rfl
    rw [hv]
    clear hv ht hA HS
    go_enter Tryd.func28, Tryd.ntmps28
    go_wp2
    exact bodyPost_ret (results_cell_tmp rfl rfl (load_head (Blk.new w 57 [.int .i64 0, .int .i64 0, .int .i64 0, .int .i64 0]))) rfl ⟨rfl, (Only.refl _ w).alloc (fun _ h => h) _⟩
  have h4i : ¬ (n : Int) < 4 := by omega
  obtain ⟨x0, x1, x2, x3, r, rfl⟩ : ∃ x0 x1 x2 x3 r, b = x0 :: x1 :: x2 :: x3 :: r := by
    match b, hne with
    | [], hne => simp at hne; omega
    | [_], hne => simp at hne; omega
    | [_, _], hne => simp at hne; omega
    | [_, _, _], hne => simp at hne; omega
    | a :: b :: c :: d :: r, _ => exact ⟨a, b, c, d, r, rfl⟩
  obtain ⟨ad, hA2, hcell⟩ := ht.2 (by omega)
  have e0 := hcell 0 (.int .u8 x0.toNat) rfl
  have e1 := hcell 1 (.int .u8 x1.toNat) rfl
  have ee : ad.add 0 = ad := by cases ad; simp [Addr.add]
  rw [ee] at e0
  have hsp := spotF e0
  obtain ⟨bl, o, rfl⟩ : ∃ bl o, ad = ⟨bl, o, none⟩ := ⟨_, _, hsp⟩
  rw [Addr.add_lit] at e1
  subst hA2
  have hbl := World.block_lt_of_cell? w _ e0
  have KB : Hid (∀ W, Only (w.heap.size ≤ ·) w W → W.cell? ⟨bl, o, none⟩ = some (.int .u8 x0.toNat) ∧ W.cell? ⟨bl, o + 1, none⟩ = some (.int .u8 x1.toNat)) := Lib.hid fun W hW => ⟨(hW.cell (p := ⟨bl, o, none⟩) (Nat.not_le.2 hbl)).trans e0, (hW.cell (p := ⟨bl, o + 1, none⟩) (Nat.not_le.2 hbl)).trans e1⟩
  obtain ⟨W0, hW0⟩ : ∃ W0, W0 = w.alloc (.cells #[.int .i64 0, .int .i64 0, .int .i64 0, .int .i64 0] 57) := ⟨_, rfl⟩
  have HL0 : Hid (Only (w.heap.size ≤ ·) w W0) := Lib.hid (by rw [hW0]; exact (Only.refl _ w).alloc (fun _ h => h) _)
  have HI : Hid (Blk W0.drew w.heap.size 57 [.int .i64 0, .int .i64 0, .int .i64 0, .int .i64 0]) := Lib.hid (by rw [hW0]; exact (Blk.new w 57 _).drew)
  have HL : Hid (Only (w.heap.size ≤ ·) w W0.drew) := Lib.hid HL0.out.drew
  have HHV := Lib.hid (hdV_four x0 x1 x2 x3 r)
  obtain ⟨b, hb⟩ : ∃ b : Bytes, b = x0 :: x1 :: x2 :: x3 :: r := ⟨_, rfl⟩
  rw [← hb] at HHV HS hne hn ⊢
  obtain ⟨RV, hRV⟩ : ∃ x, x = hdV b := ⟨_, rfl⟩
  rw [← hRV]
  have HRV0 := Lib.hid (hRV.trans HHV.out)
  clear hRV
  have hk8 : x0.toNat ≤ 255 := by have := UInt8.toNat_lt x0; omega
  have hg8 : x1.toNat ≤ 255 := by have := UInt8.toNat_lt x1; omega
  generalize x0.toNat = k at KB hk8 HRV0
  generalize x1.toNat = g at KB hg8 HRV0
  have HNE := Lib.hid hne
  have HBL := Lib.hid hn
  clear HHV hb hcell e0 e1 ee hsp ht hbl hA hne hn
  have hwk : IntKind.i64.wrap (k : Int) = (k : Int) := IntWalk.i64_in _ (by omega)
  have hwg : IntKind.i64.wrap (g : Int) = (g : Int) := IntWalk.i64_in _ (by omega)
  have j0 : (0 : Int) < (n : Int) := by omega
  have j1 : (1 : Int) < (n : Int) := by omega
  have j2 : 0 < n := by omega
  have j3 : 1 < n := by omega
  obtain ⟨kk, hkk⟩ : ∃ b, kindOk (k : Int) = b := ⟨_, rfl⟩
  obtain ⟨gg, hgg⟩ : ∃ b, gen (g : Int) = b := ⟨_, rfl⟩
  have HKK : Hid (∀ W, Calls Tryd.prog 46 #[.int .i64 (k : Int)] W fun e w' => e = .returned (.bool kk) ∧ W = w') := Lib.hid fun W => by rw [← hkk]; exact isKind_c W k
  have HGG : Hid (∀ W, Calls Tryd.prog 42 #[.int .i64 (g : Int)] W fun e w' => e = .returned (.bool gg) ∧ W = w') := Lib.hid fun W => by rw [← hgg]; exact Gen_c W g
  rw [hkk, hgg] at HRV0
  have HG := Lib.hid hG
  clear hkk hgg hG
  go_enter Tryd.func28, Tryd.ntmps28
  go_upto_region 3 with (fail)
  rw [← hW0]
  clear hW0
  refine wp_region_list (B := [false, false, false, false, false, false, false, false, false, false]) (S := (fun W => W.cell? ⟨bl, o, none⟩ = some (.int .u8 k) ∧ W.cell? ⟨bl, o + 1, none⟩ = some (.int .u8 g))) (by kernel_rfl) (by kernel_rfl) (by kernel_rfl) (KB.out _ HL.out) (fun hsel hHeld => ?_)
  obtain ⟨wz, hwz⟩ : ∃ wz, wz = W0.drew := ⟨_, rfl⟩
  rw [← hwz] at HL HI hHeld
  rw [← hwz]
  clear hwz
  refine oneA 0 13 hsel (h := ?_)
  simp only [Act.put, List.setIfInBounds_toArray, List.set_cons_zero, List.set_cons_succ]
  refine oneA 1 14 hsel (h := ?_)
  simp only [Act.put, List.setIfInBounds_toArray, List.set_cons_zero, List.set_cons_succ]
  refine oneA 2 15 hsel (h := ?_)
  simp only [Act.put, List.setIfInBounds_toArray, List.set_cons_zero, List.set_cons_succ]
  refine oneA 3 16 hsel (h := ?_)
  simp only [Act.put, List.setIfInBounds_toArray, List.set_cons_zero, List.set_cons_succ]
  refine oneA 4 17 hsel (h := ?_)
  simp only [Act.put, List.setIfInBounds_toArray, List.set_cons_zero, List.set_cons_succ]
  refine oneA 5 18 hsel (h := ?_)
  simp only [Act.put, List.setIfInBounds_toArray, List.set_cons_zero, List.set_cons_succ]
  refine oneA 6 19 hsel (h := ?_)
  simp only [Act.put, List.setIfInBounds_toArray, List.set_cons_zero, List.set_cons_succ]
  refine oneA 7 20 hsel (h := ?_)
  simp only [Act.put, List.setIfInBounds_toArray, List.set_cons_zero, List.set_cons_succ]
  refine oneA 8 4 hsel (h := ?_)
  simp only [Act.put, List.setIfInBounds_toArray, List.set_cons_zero, List.set_cons_succ]
  refine oneA 9 5 hsel (h := ?_)
  simp only [Act.put, List.setIfInBounds_toArray, List.set_cons_zero, List.set_cons_succ]
  refine wpAnyL_done (by kernel_rfl) (by kernel_rfl) ?_ _
  clear hsel hHeld
  obtain ⟨i0, i1, i2, i3⟩ := HI.out.four
  have f0 := HI.out.frozen 0
  have f1 := HI.out.frozen 1
  have f2 := HI.out.frozen 2
  have f3 := HI.out.frozen 3
  cases kk
  · obtain rfl : RV = hdBad 70 := HRV0.out.trans (if_neg (by simp))
    go_wp2_with (go_at_call 46; (with_reducible refine (HKK.out _).mono ?_); rintro e w1 ⟨rfl, rfl⟩)
    exact bodyPost_ret (results_cell_tmp rfl rfl (load_head ((((HI.out.set_ 0 _).set_ 1 _).set_ 2 _).set_ 3 _))) rfl ⟨rfl, (((HL.out.setCell (p := ⟨w.heap.size, 0, none⟩) (Nat.le_refl _) _).setCell (p := ⟨w.heap.size, 1, none⟩) (Nat.le_refl _) _).setCell (p := ⟨w.heap.size, 2, none⟩) (Nat.le_refl _) _).setCell (p := ⟨w.heap.size, 3, none⟩) (Nat.le_refl _) _⟩
  cases gg
  · obtain rfl : RV = hdBad 70 := HRV0.out.trans (if_neg (by simp))
    go_wp2_with (first
      | (go_at_call 46; (with_reducible refine (HKK.out _).mono ?_); rintro e w1 ⟨rfl, rfl⟩)
      | (go_at_call 42; (with_reducible refine (HGG.out _).mono ?_); rintro e w1 ⟨rfl, rfl⟩))
    exact bodyPost_ret (results_cell_tmp rfl rfl (load_head ((((HI.out.set_ 0 _).set_ 1 _).set_ 2 _).set_ 3 _))) rfl ⟨rfl, (((HL.out.setCell (p := ⟨w.heap.size, 0, none⟩) (Nat.le_refl _) _).setCell (p := ⟨w.heap.size, 1, none⟩) (Nat.le_refl _) _).setCell (p := ⟨w.heap.size, 2, none⟩) (Nat.le_refl _) _).setCell (p := ⟨w.heap.size, 3, none⟩) (Nat.le_refl _) _⟩
  have HRV1 := Lib.hid (HRV0.out.trans (if_pos (show (true && true) = true from rfl)))
  clear HRV0
  clear i0 i1 i2 i3 f0 f1 f2 f3
  obtain ⟨hh, hhh⟩ : ∃ z, z = tr (g : Int) 8 16 16 := ⟨_, rfl⟩
  have hh16 : 0 ≤ hh := by rw [hhh]; unfold tr; split <;> (try split) <;> (try split) <;> omega
  have HHD : Hid (∀ W, Only (w.heap.size ≤ ·) w W → Calls Tryd.prog 22 #[.int .i64 (g : Int)] W (Told W (.int .i64 hh))) := Lib.hid fun W hW => by rw [hhh]; exact Head_c W g (HG.out.later hW)
  obtain ⟨m, hmd⟩ : ∃ m : Nat, m = min b.length (tr (g : Int) 8 16 16).toNat := ⟨_, rfl⟩
  obtain ⟨u, hu⟩ : ∃ u, u = gap (g : Int) := ⟨_, rfl⟩
  obtain ⟨v, hv⟩ : ∃ v, v = tr (g : Int) 4 8 8 := ⟨_, rfl⟩
  have hmn : m = min n hh.toNat := by rw [hmd, hhh, HNE.out]
  have hmin : min (n : Int) hh = (m : Int) := by rw [hmn]; omega
  have m0 : (0 : Int) ≤ (m : Int) := by omega
  have m1 : (m : Int) ≤ (cap : Int) := by omega
  have m2 : m ≤ cap := by omega
  obtain ⟨C0, hC0⟩ : ∃ c, c = Cur.new (b.take m) := ⟨_, rfl⟩
  obtain ⟨C1, hC1⟩ : ∃ c, c = C0.take 2 := ⟨_, rfl⟩
  obtain ⟨C3, hC3⟩ : ∃ c, c = (C1.get 2).take u := ⟨_, rfl⟩
  have HRV : Hid (RV = if (C3.get v).sp = true then hdBad 72 else .tuple #[.agg #[.int .i64 (k : Int), .int .i64 (g : Int), .int .i64 (C1.val 2), .int .i64 (C3.val v)], .int .i64 0]) := Lib.hid (by rw [HRV1.out, hC3, hC1, hC0, hv, hu, hmd]; rfl)
  clear HRV1
  have HSR : Hid (∀ W, Only (w.heap.size ≤ ·) w W → Src W (.slice (some ⟨bl, o, none⟩) m cap) (b.take m)) := Lib.hid fun W hW => by
    obtain ⟨A', c', e, ht, _, _, hc'⟩ := HS.out.later hW
    simp only [Value.slice.injEq] at e
    obtain ⟨rfl, en, rfl⟩ := e
    have hml : (b.take m).length = m := by rw [List.length_take, hmd]; omega
    exact ⟨some ⟨bl, o, none⟩, cap, by rw [hml], by rw [hml]; exact ht.take m (by rw [← en, hmn]; omega), (fun e => by cases e), by rw [hml]; exact m2, hc'⟩
  have HNR : Hid (∀ W, Only (w.heap.size ≤ ·) w W → Calls Tryd.prog 47 #[.slice (some ⟨bl, o, none⟩) m cap] W (Made W 90 C0)) := Lib.hid fun W hW => by rw [hC0]; exact NewReader_c W _ (b.take m) (HSR.out W hW) (by rw [List.length_take]; have := HBL.out; omega)
  have HBN : Hid (∀ W, Calls Tryd.prog 50 #[.int .i64 (g : Int)] W fun e w' => e = .returned (.int .i64 u) ∧ W = w') := Lib.hid fun W => by rw [hu]; exact beforeNext_c W g
  have HIW : Hid (∀ W, Only (w.heap.size ≤ ·) w W → Calls Tryd.prog 51 #[.int .i64 (g : Int)] W (Told W (.int .i64 v))) := Lib.hid fun W hW => by rw [hv]; exact IdWidth_c W g (HG.out.later hW)
  have HC1 := Lib.hid hC1
  have HC3 := Lib.hid hC3
  have HZ : Hid (w.heap.size < wz.heap.size) := Lib.hid HI.out.lt
  have HLz : Hid (Only (wz.heap.size ≤ ·) wz wz) := Lib.hid (Only.refl _ _)
  clear hhh hmd hu hv hmn hC0 hC1 hC3 hh16
  obtain ⟨sp, hsp⟩ : ∃ z, z = (C3.get v).sp := ⟨_, rfl⟩
  rw [← hsp] at HRV
  have HER : Hid (∀ W p q, Holds W p q 90 (C3.get v) → Calls Tryd.prog 52 #[.pointer (some ⟨p, 0, none⟩)] W fun e w' => e = .returned (.int .i64 (if sp = true then 30 else 0)) ∧ W = w') := Lib.hid fun W p q h => by have := Err_c W p q _ h; rw [hsp]; exact this
  clear hsp
  go_wp2_with (first
    | (go_at_call 46; (with_reducible refine (HKK.out _).mono ?_); rintro e w1 ⟨rfl, rfl⟩)
    | (go_at_call 42; (with_reducible refine (HGG.out _).mono ?_); rintro e w1 ⟨rfl, rfl⟩)
    | (go_at_call 22; (with_reducible refine (HHD.out _ HL.out).mono ?_); rintro e w2 ⟨rfl, ho⟩; (replace HLz := Lib.hid (on_new HLz.out ho)); (replace HI := Lib.hid (HI.out.later ho)); (replace HL := Lib.hid (on_new HL.out ho)); clear ho)
    | (go_at_call 47; (with_reducible refine (HNR.out _ HL.out).mono ?_); rintro e w3 ⟨p, q, rfl, hp, hq, hx, ho, hql⟩; have HH := Lib.hid hx; have HP := Lib.hid (Nat.lt_of_lt_of_le (Nat.lt_of_lt_of_le HZ.out HLz.out.size) hp); (replace HI := Lib.hid (HI.out.later ho)); (replace HL := Lib.hid (on_new HL.out ho)); clear hx hp hq ho hql)
    | (go_at_call 48; (with_reducible refine (Skip_c _ p q _ _ HH.out 2).mono ?_); rintro e w4 ⟨rfl, hx, ho⟩; (rw [← HC1.out] at hx); have HH1 := Lib.hid hx; (replace HI := Lib.hid (HI.out.only ho (Nat.ne_of_lt HP.out))); (replace HL := Lib.hid (HL.out.trans (ho.mono fun j hj => hj ▸ Nat.le_of_lt HP.out))); clear hx ho)
    | (go_at_call 49; (with_reducible refine (Get_c _ p q _ HH1.out 2).mono ?_); rintro e w5 ⟨rfl, hx, ho⟩; have HH2 := Lib.hid hx; (replace HI := Lib.hid (HI.out.only ho (Nat.ne_of_lt HP.out))); (replace HL := Lib.hid (HL.out.trans (ho.mono fun j hj => hj ▸ Nat.le_of_lt HP.out))); clear hx ho))
  replace HL := Lib.hid HL.out.drew
  replace HI : Hid (Blk w5.drew w.heap.size 57 [.int .i64 0, .int .i64 0, .int .i64 0, .int .i64 0]) := Lib.hid HI.out.drew
  replace HH2 : Hid (Holds w5.drew p q 90 _) := Lib.hid (HH2.out.drewN 1)
  refine wp_region_list (B := [false, false, false, false, false, false]) (S := (fun _ => True)) (by kernel_rfl) (by kernel_rfl) (by kernel_rfl) trivial (fun hsel hHeld => ?_)
  obtain ⟨wy, hwy⟩ : ∃ W, W = w5.drew := ⟨_, rfl⟩
  rw [← hwy] at HL HI HH2
  rw [← hwy]
  clear hwy
  refine oneA 0 44 hsel (h := ?_)
  simp only [Act.put, List.setIfInBounds_toArray, List.set_cons_zero, List.set_cons_succ]
  refine oneA 1 45 hsel (h := ?_)
  simp only [Act.put, List.setIfInBounds_toArray, List.set_cons_zero, List.set_cons_succ]
  refine oneA 2 46 hsel (h := ?_)
  simp only [Act.put, List.setIfInBounds_toArray, List.set_cons_zero, List.set_cons_succ]
  refine oneA 3 47 hsel (h := ?_)
  simp only [Act.put, List.setIfInBounds_toArray, List.set_cons_zero, List.set_cons_succ]
  refine wpAnyL_ready (rs := [4]) (by kernel_rfl) (by kernel_rfl) (by simp) ?_
  refine AllReadyL.cons (o := ?_) ?_ (fun K hK => ?_) AllReadyL.nil
  case refine_2 => (simp only [List.getElem?_cons_succ, List.getElem?_cons_zero]; rfl)
  go_simp
  (go_at_call 50; (with_reducible refine (HBN.out _).mono ?_); rintro ee w6 ⟨rfl, rfl⟩)
  go_wp2_with (fail)
  clear hHeld
  refine hK.out _ _ trivial (fun hHeld => ?_)
  clear hK K
  try simp only [List.set_cons_zero, List.set_cons_succ]
  refine wpAnyL_ready (rs := [5]) (by kernel_rfl) (by kernel_rfl) (by simp) ?_
  refine AllReadyL.cons (o := ?_) ?_ (fun K hK => ?_) AllReadyL.nil
  case refine_2 => (simp only [List.getElem?_cons_succ, List.getElem?_cons_zero]; rfl)
  go_simp
  (go_at_call 48; (with_reducible refine (Skip_c _ p q _ _ HH2.out u).mono ?_); rintro ee w7 ⟨rfl, hx, ho⟩; (rw [← HC3.out] at hx); have HH3 := Lib.hid hx; (replace HI := Lib.hid (HI.out.only ho (Nat.ne_of_lt HP.out))); (replace HL := Lib.hid (HL.out.trans (ho.mono fun j hj => hj ▸ Nat.le_of_lt HP.out))); clear hx ho)
  go_wp2_with (fail)
  clear hHeld
  refine hK.out _ _ trivial (fun hHeld => ?_)
  clear hK K
  try simp only [List.set_cons_zero, List.set_cons_succ]
  refine wpAnyL_done (by kernel_rfl) (by kernel_rfl) ?_ _
  clear hsel hHeld
  cases sp
  · go_wp2_with (first
      | (go_at_call 51; (with_reducible refine (HIW.out _ HL.out).mono ?_); rintro e w8 ⟨rfl, ho⟩; (replace HH3 := Lib.hid (HH3.out.later ho)); (replace HI := Lib.hid (HI.out.later ho)); (replace HL := Lib.hid (on_new HL.out ho)); clear ho)
      | (go_at_call 49; (with_reducible refine (Get_c _ p q _ HH3.out v).mono ?_); rintro e w9 ⟨rfl, hx, ho⟩; have HH4 := Lib.hid hx; (replace HI := Lib.hid (HI.out.only ho (Nat.ne_of_lt HP.out))); (replace HL := Lib.hid (HL.out.trans (ho.mono fun j hj => hj ▸ Nat.le_of_lt HP.out))); clear hx ho; (obtain ⟨i0, i1, i2, i3⟩ := HI.out.four); have f0 := HI.out.frozen 0; have f1 := HI.out.frozen 1; have f2 := HI.out.frozen 2; have f3 := HI.out.frozen 3)
      | (go_at_call 52; (with_reducible refine (HER.out _ p q HH4.out).mono ?_); rintro e w10 ⟨rfl, rfl⟩))
    exact bodyPost_ret (results_cell_tmp rfl rfl (load_head ((((HI.out.set_ 0 _).set_ 1 _).set_ 2 _).set_ 3 _))) rfl ⟨by rw [HRV.out]; rfl, (((HL.out.setCell (p := ⟨w.heap.size, 0, none⟩) (Nat.le_refl _) _).setCell (p := ⟨w.heap.size, 1, none⟩) (Nat.le_refl _) _).setCell (p := ⟨w.heap.size, 2, none⟩) (Nat.le_refl _) _).setCell (p := ⟨w.heap.size, 3, none⟩) (Nat.le_refl _) _⟩
  · go_wp2_with (first
      | (go_at_call 51; (with_reducible refine (HIW.out _ HL.out).mono ?_); rintro e w8 ⟨rfl, ho⟩; (replace HH3 := Lib.hid (HH3.out.later ho)); (replace HI := Lib.hid (HI.out.later ho)); (replace HL := Lib.hid (on_new HL.out ho)); clear ho)
      | (go_at_call 49; (with_reducible refine (Get_c _ p q _ HH3.out v).mono ?_); rintro e w9 ⟨rfl, hx, ho⟩; have HH4 := Lib.hid hx; (replace HI := Lib.hid (HI.out.only ho (Nat.ne_of_lt HP.out))); (replace HL := Lib.hid (HL.out.trans (ho.mono fun j hj => hj ▸ Nat.le_of_lt HP.out))); clear hx ho; (obtain ⟨i0, i1, i2, i3⟩ := HI.out.four); have f0 := HI.out.frozen 0; have f1 := HI.out.frozen 1; have f2 := HI.out.frozen 2; have f3 := HI.out.frozen 3)
      | (go_at_call 52; (with_reducible refine (HER.out _ p q HH4.out).mono ?_); rintro e w10 ⟨rfl, rfl⟩))
    exact bodyPost_ret (results_cell_tmp rfl rfl (load_head ((((HI.out.set_ 0 _).set_ 1 _).set_ 2 _).set_ 3 _))) rfl ⟨by rw [HRV.out]; rfl, (((HL.out.setCell (p := ⟨w.heap.size, 0, none⟩) (Nat.le_refl _) _).setCell (p := ⟨w.heap.size, 1, none⟩) (Nat.le_refl _) _).setCell (p := ⟨w.heap.size, 2, none⟩) (Nat.le_refl _) _).setCell (p := ⟨w.heap.size, 3, none⟩) (Nat.le_refl _) _⟩
end Go.Proofs.YtbgnfocfnjlabaaDoor
