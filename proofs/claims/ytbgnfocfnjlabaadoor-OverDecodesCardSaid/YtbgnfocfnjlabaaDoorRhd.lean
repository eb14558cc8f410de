/-
  HeadOf of the document.
-/
import Derived.Test.YtbgnfocfnjlabaaDoorRnm
import Derived.Test.YtbgnfocfnjlabaaDoorPbd
set_option linter.unusedVariables false
namespace Go.Proofs.YtbgnfocfnjlabaaDoor
open Go.RowKit

theorem rload_head {w : World} {g : Nat} {k x n y : Int} (h : Blk w g 64 [.int .i64 k, .int .i64 x, .int .i64 n, .int .i64 y]) : (loadVar 64 ⟨g, 0, none⟩).run Tryd.prog w = .ok (.agg #[.int .i64 k, .int .i64 x, .int .i64 n, .int .i64 y]) w := by
  have hl := run_loadCells_list (P := Tryd.prog) w ⟨g, 0, none⟩ [.int .i64 k, .int .i64 x, .int .i64 n, .int .i64 y] (fun j u hu => by rw [Addr.add_lit, h.cell, Nat.zero_add]; exact hu)
  simp only [List.length_cons, List.length_nil] at hl
  simp [loadVar, hl]
/-- A part of bytes, as a slice value. -/
theorem src_part {w : World} {bl o n cap : Nat} {b : Bytes} (h : Src w (.slice (some ⟨bl, o, none⟩) n cap) b) {a z : Nat} (ha : a ≤ z) (hz : z ≤ n) : Src w (.slice (some ⟨bl, o + a, none⟩) (z - a) (cap - a)) ((b.drop a).take (z - a)) := by
  obtain ⟨A, c, e, ht, _, hc, hm⟩ := h
  simp only [Value.slice.injEq] at e
  obtain ⟨rfl, en, rfl⟩ := e
  have h1 := ht.drop a
  rw [Addr.add_lit] at h1
  have h2 := h1.take (z - a) (by omega)
  have hl : ((b.drop a).take (z - a)).length = z - a := by rw [List.length_take, List.length_drop]; omega
  exact ⟨some ⟨bl, o + a, none⟩, cap - a, by rw [hl], by rw [hl]; exact h2, (fun e => by cases e), by rw [hl]; omega, by omega⟩
/-- Where Next begins, and ends. -/
def nx0 (g : Nat) : Nat := if g = 1 then 4 else 8
def nx1 (g : Nat) : Nat := if g = 1 then 8 else 16
def rhdE (b : Bytes) : Int := if b.length < 4 then 70 else if (kindOk (hdK b : Nat) && gen (hdG b : Nat)) = true then (if b.length < nx1 (hdG b) ∨ rnum ((b.drop (nx0 (hdG b))).take (nx1 (hdG b) - nx0 (hdG b))) < 0 then 72 else 0) else 70
def rhdV (b : Bytes) : Value := if rhdE b = 0 then .tuple #[.agg #[.int .i64 (hdK b : Nat), .int .i64 (hdG b : Nat), .int .i64 (rnum ((b.drop 2).take 2)), .int .i64 (rnum ((b.drop (nx0 (hdG b))).take (nx1 (hdG b) - nx0 (hdG b))))], .int .i64 0] else hdBad (rhdE b)
set_option maxRecDepth 100000 in
set_option maxHeartbeats 12800000 in
theorem rHeadOf_c (w : World) (v : Value) (b : Bytes) (h : Src w v b) (hn : b.length ≤ 65536) :
    Calls Tryd.prog 31 #[v] w (Told w (rhdV b)) := by
  have HS := Lib.hid h
  obtain ⟨A, cap, rfl, ht, hA, hc, hm⟩ := h
  obtain ⟨n, hne⟩ : ∃ n, n = b.length := ⟨_, rfl⟩
  rw [← hne] at ht hc HS ⊢
  obtain ⟨RV, hRV⟩ : ∃ x, x = rhdV b := ⟨_, rfl⟩
  rw [← hRV]
  obtain ⟨E, hE⟩ : ∃ x, x = rhdE b := ⟨_, rfl⟩
  by_cases h4 : n < 4
  · have h4i : (n : Int) < 4 := by omega
    have z4 : decide ((n : Int) < 4) = true := decide_eq_true h4i
    obtain rfl : RV = hdBad 70 := by
      have e : rhdE b = 70 := by unfold rhdE; rw [if_pos (by omega)]
      rw [hRV]; unfold rhdV; rw [e]; rfl
    clear hRV hE ht hA HS hne
    go_enter Tryd.func31, Tryd.ntmps31
    go_wp2_with (fail)
    refine wp_region_list (B := [false, false, false, false, false, false, false, false, false, false, false, false, false, false, false]) (S := (fun _ => True)) (by kernel_rfl) (by kernel_rfl) (by kernel_rfl) trivial (fun hsel hHeld => ?_)
    refine oneA 0 7 hsel (h := ?_)
    simp only [Act.put, List.setIfInBounds_toArray, List.set_cons_zero, List.set_cons_succ]
    refine oneA 1 8 hsel (h := ?_)
    simp only [Act.put, List.setIfInBounds_toArray, List.set_cons_zero, List.set_cons_succ]
    refine oneA 2 9 hsel (h := ?_)
    simp only [Act.put, List.setIfInBounds_toArray, List.set_cons_zero, List.set_cons_succ]
    refine oneA 3 10 hsel (h := ?_)
    simp only [Act.put, List.setIfInBounds_toArray, List.set_cons_zero, List.set_cons_succ]
    refine take_skipL (i := 4) (d := 11) (oi := ?_) ?_ hsel (by kernel_rfl) (by kernel_rfl) (fun _ _ _ h => h) ?_ ?_ (by assumption) ?_
    case refine_2 => (simp only [List.getElem?_cons_succ, List.getElem?_cons_zero]; rfl)
    case refine_3 => rfl
    case refine_4 => rfl
    simp only [Act.put, List.setIfInBounds_toArray, List.set_cons_zero, List.set_cons_succ]
    refine take_skipL (i := 5) (d := 12) (oi := ?_) ?_ hsel (by kernel_rfl) (by kernel_rfl) (fun _ _ _ h => h) ?_ ?_ (by assumption) ?_
    case refine_2 => (simp only [List.getElem?_cons_succ, List.getElem?_cons_zero]; rfl)
    case refine_3 => rfl
    case refine_4 => rfl
    simp only [Act.put, List.setIfInBounds_toArray, List.set_cons_zero, List.set_cons_succ]
    refine take_skipL (i := 6) (d := 13) (oi := ?_) ?_ hsel (by kernel_rfl) (by kernel_rfl) (fun _ _ _ h => h) ?_ ?_ (by assumption) ?_
    case refine_2 => (simp only [List.getElem?_cons_succ, List.getElem?_cons_zero]; rfl)
    case refine_3 => rfl
    case refine_4 => rfl
    simp only [Act.put, List.setIfInBounds_toArray, List.set_cons_zero, List.set_cons_succ]
    refine take_skipL (i := 7) (d := 14) (oi := ?_) ?_ hsel (by kernel_rfl) (by kernel_rfl) (fun _ _ _ h => h) ?_ ?_ (by assumption) ?_
    case refine_2 => (simp only [List.getElem?_cons_succ, List.getElem?_cons_zero]; rfl)
    case refine_3 => rfl
    case refine_4 => rfl
    simp only [Act.put, List.setIfInBounds_toArray, List.set_cons_zero, List.set_cons_succ]
    refine take_skipL (i := 8) (d := 15) (oi := ?_) ?_ hsel (by kernel_rfl) (by kernel_rfl) (fun _ _ _ h => h) ?_ ?_ (by assumption) ?_
    case refine_2 => (simp only [List.getElem?_cons_succ, List.getElem?_cons_zero]; rfl)
    case refine_3 => rfl
    case refine_4 => rfl
    simp only [Act.put, List.setIfInBounds_toArray, List.set_cons_zero, List.set_cons_succ]
    refine take_skipL (i := 9) (d := 16) (oi := ?_) ?_ hsel (by kernel_rfl) (by kernel_rfl) (fun _ _ _ h => h) ?_ ?_ (by assumption) ?_
    case refine_2 => (simp only [List.getElem?_cons_succ, List.getElem?_cons_zero]; rfl)
    case refine_3 => rfl
    case refine_4 => rfl
    simp only [Act.put, List.setIfInBounds_toArray, List.set_cons_zero, List.set_cons_succ]
    refine take_skipL (i := 10) (d := 17) (oi := ?_) ?_ hsel (by kernel_rfl) (by kernel_rfl) (fun _ _ _ h => h) ?_ ?_ (by assumption) ?_
    case refine_2 => (simp only [List.getElem?_cons_succ, List.getElem?_cons_zero]; rfl)
    case refine_3 => rfl
    case refine_4 => rfl
    simp only [Act.put, List.setIfInBounds_toArray, List.set_cons_zero, List.set_cons_succ]
    refine take_skipL (i := 11) (d := 18) (oi := ?_) ?_ hsel (by kernel_rfl) (by kernel_rfl) (fun _ _ _ h => h) ?_ ?_ (by assumption) ?_
    case refine_2 => (simp only [List.getElem?_cons_succ, List.getElem?_cons_zero]; rfl)
    case refine_3 => rfl
    case refine_4 => rfl
    simp only [Act.put, List.setIfInBounds_toArray, List.set_cons_zero, List.set_cons_succ]
    refine take_skipL (i := 12) (d := 19) (oi := ?_) ?_ hsel (by kernel_rfl) (by kernel_rfl) (fun _ _ _ h => h) ?_ ?_ (by assumption) ?_
    case refine_2 => (simp only [List.getElem?_cons_succ, List.getElem?_cons_zero]; rfl)
    case refine_3 => rfl
    case refine_4 => rfl
    simp only [Act.put, List.setIfInBounds_toArray, List.set_cons_zero, List.set_cons_succ]
    refine take_skipL (i := 13) (d := 20) (oi := ?_) ?_ hsel (by kernel_rfl) (by kernel_rfl) (fun _ _ _ h => h) ?_ ?_ (by assumption) ?_
    case refine_2 => (simp only [List.getElem?_cons_succ, List.getElem?_cons_zero]; rfl)
    case refine_3 => rfl
    case refine_4 => rfl
    simp only [Act.put, List.setIfInBounds_toArray, List.set_cons_zero, List.set_cons_succ]
    refine oneA 14 21 hsel (h := ?_)
    simp only [Act.put, List.setIfInBounds_toArray, List.set_cons_zero, List.set_cons_succ]
    refine wpAnyL_done (by kernel_rfl) (by kernel_rfl) ?_ _
    clear hsel hHeld
    go_wp2
    exact bodyPost_ret (results_cell_tmp rfl rfl (rload_head (Blk.new w 64 [.int .i64 0, .int .i64 0, .int .i64 0, .int .i64 0]))) rfl ⟨rfl, ((Only.refl _ w).alloc (fun _ h => h) _).drew⟩
  have h4i : ¬ (n : Int) < 4 := by omega
  have z4 : decide ((n : Int) < 4) = false := decide_eq_false h4i
  obtain ⟨ad, eA, hcell⟩ := ht.2 (by omega)
  have hb0 : ∃ x, b[0]? = some x := ⟨_, List.getElem?_eq_getElem (by omega)⟩
  have hb1 : ∃ x, b[1]? = some x := ⟨_, List.getElem?_eq_getElem (by omega)⟩
  obtain ⟨x0, hx0⟩ := hb0
  obtain ⟨x1, hx1⟩ := hb1
  have hcb : ∀ (j : Nat) (y : UInt8), b[j]? = some y → (cb b)[j]? = some (Value.int .u8 y.toNat) := fun j y hy => by unfold cb; rw [List.getElem?_map, hy]; rfl
  have e0 := hcell 0 _ (hcb 0 _ hx0)
  have e1 := hcell 1 _ (hcb 1 _ hx1)
  have ee : ad.add 0 = ad := by cases ad; simp [Addr.add]
  rw [ee] at e0
  have hsp := spotF e0
  obtain ⟨bl, o, rfl⟩ : ∃ bl o, ad = ⟨bl, o, none⟩ := ⟨_, _, hsp⟩
  rw [Addr.add_lit] at e1
  subst eA
  have hbl := World.block_lt_of_cell? w _ e0
  have hk : x0.toNat = hdK b := by unfold hdK; rw [List.getD_eq_getElem?_getD, hx0]; rfl
  have hg : x1.toNat = hdG b := by unfold hdG; rw [List.getD_eq_getElem?_getD, hx1]; rfl
  have hk8 := UInt8.toNat_lt x0
  have hg8 := UInt8.toNat_lt x1
  rw [hk] at e0 hk8
  rw [hg] at e1 hg8
  have KB : Hid (∀ W, Only (w.heap.size ≤ ·) w W → W.cell? ⟨bl, o, none⟩ = some (.int .u8 (hdK b)) ∧ W.cell? ⟨bl, o + 1, none⟩ = some (.int .u8 (hdG b))) := Lib.hid fun W hW => ⟨(hW.cell (p := ⟨bl, o, none⟩) (Nat.not_le.2 hbl)).trans e0, (hW.cell (p := ⟨bl, o + 1, none⟩) (Nat.not_le.2 hbl)).trans e1⟩
  have HEE : Hid (E = if (kindOk (hdK b : Nat) && gen (hdG b : Nat)) = true then (if b.length < nx1 (hdG b) ∨ rnum ((b.drop (nx0 (hdG b))).take (nx1 (hdG b) - nx0 (hdG b))) < 0 then 72 else 0) else 70) := Lib.hid (by rw [hE]; unfold rhdE; rw [if_neg (by omega)])
  have HRV : Hid (RV = if E = 0 then .tuple #[.agg #[.int .i64 (hdK b : Nat), .int .i64 (hdG b : Nat), .int .i64 (rnum ((b.drop 2).take 2)), .int .i64 (rnum ((b.drop (nx0 (hdG b))).take (nx1 (hdG b) - nx0 (hdG b))))], .int .i64 0] else hdBad E) := Lib.hid (by rw [hRV, hE]; rfl)
  obtain ⟨k, hkd⟩ : ∃ z, z = hdK b := ⟨_, rfl⟩
  obtain ⟨g, hgd⟩ : ∃ z, z = hdG b := ⟨_, rfl⟩
  rw [← hkd] at KB HEE HRV hk8
  rw [← hgd] at KB HEE HRV hg8
  have HNE := Lib.hid hne
  have HC2 : Hid (∀ W, Only (w.heap.size ≤ ·) w W → Calls Tryd.prog 56 #[.slice (some ⟨bl, o + 2, none⟩) 2 (cap - 2)] W (Told W (.int .i64 (rnum ((b.drop 2).take 2))))) := Lib.hid fun W hW => rnumber_c W _ _ (src_part (HS.out.later hW) (a := 2) (z := 4) (by omega) (by omega)) (by rw [List.length_take]; omega)
  have HCX : Hid (∀ W, Only (w.heap.size ≤ ·) w W → nx1 g ≤ n → Calls Tryd.prog 56 #[.slice (some ⟨bl, o + nx0 g, none⟩) (nx1 g - nx0 g) (cap - nx0 g)] W (Told W (.int .i64 (rnum ((b.drop (nx0 g)).take (nx1 g - nx0 g)))))) := Lib.hid fun W hW hle => rnumber_c W _ _ (src_part (HS.out.later hW) (a := nx0 g) (z := nx1 g) (by unfold nx0 nx1; split <;> omega) hle) (by rw [List.length_take]; unfold nx0 nx1; split <;> omega)
  obtain ⟨cv, hcv⟩ : ∃ z, z = rnum ((b.drop 2).take 2) := ⟨_, rfl⟩
  obtain ⟨nv, hnv⟩ : ∃ z, z = rnum ((b.drop (nx0 g)).take (nx1 g - nx0 g)) := ⟨_, rfl⟩
  rw [← hcv] at HC2 HRV
  rw [← hnv] at HCX HRV HEE
  rw [← hne] at HEE
  obtain ⟨kn, hkn⟩ : ∃ z, (kindOk (k : Int) && gen (g : Int)) = z := ⟨_, rfl⟩
  have HKN : Hid (∀ W, Calls Tryd.prog 55 #[.int .i64 (k : Int), .int .i64 (g : Int)] W fun e w' => e = .returned (.bool kn) ∧ W = w') := Lib.hid fun W => by rw [← hkn]; exact rknown_c W k g
  rw [hkn] at HEE
  have HKD := Lib.hid hkn
  have hwk : IntKind.i64.wrap (k : Int) = (k : Int) := IntWalk.i64_in _ (by omega)
  have hwg : IntKind.i64.wrap (g : Int) = (g : Int) := IntWalk.i64_in _ (by omega)
  have j2 : 0 < n := by omega
  have j3 : 1 < n := by omega
  have i9 : (0 : Int) < (n : Int) := by omega
  have i8 : (1 : Int) < (n : Int) := by omega
  have j4 : 4 ≤ cap := by omega
  have j5 : (4 : Int) ≤ (cap : Int) := by omega
  have j6 : ¬ cap = 2 := by omega
  obtain ⟨W0, hW0⟩ : ∃ W0, W0 = w.alloc (.cells #[.int .i64 0, .int .i64 0, .int .i64 0, .int .i64 0] 64) := ⟨_, rfl⟩
  have HL0 : Hid (Only (w.heap.size ≤ ·) w W0) := Lib.hid (by rw [hW0]; exact (Only.refl _ w).alloc (fun _ h => h) _)
  have HI : Hid (Blk W0.drew w.heap.size 64 [.int .i64 0, .int .i64 0, .int .i64 0, .int .i64 0]) := Lib.hid (by rw [hW0]; exact (Blk.new w 64 _).drew)
  have HL : Hid (Only (w.heap.size ≤ ·) w W0.drew) := Lib.hid HL0.out.drew
  clear hRV hE ht hA hcell hcb hx0 hx1 e0 e1 ee hsp hbl hk hg hkd hgd hne hcv hnv hkn hn
  go_enter Tryd.func31, Tryd.ntmps31
  go_upto_region 1 with (fail)
  rw [← hW0]
  clear hW0
  refine wp_region_list (B := [false, false, false, false, false, false, false, false, false, false, false, false, false, false, false]) (S := (fun W => W.cell? ⟨bl, o, none⟩ = some (.int .u8 k) ∧ W.cell? ⟨bl, o + 1, none⟩ = some (.int .u8 g))) (by kernel_rfl) (by kernel_rfl) (by kernel_rfl) (KB.out _ HL.out) (fun hsel hHeld => ?_)
  obtain ⟨wz, hwz⟩ : ∃ wz, wz = W0.drew := ⟨_, rfl⟩
  rw [← hwz] at HL HI hHeld
  rw [← hwz]
  clear hwz
  refine oneA 0 7 hsel (h := ?_)
  simp only [Act.put, List.setIfInBounds_toArray, List.set_cons_zero, List.set_cons_succ]
  refine oneA 1 8 hsel (h := ?_)
  simp only [Act.put, List.setIfInBounds_toArray, List.set_cons_zero, List.set_cons_succ]
  refine oneA 2 9 hsel (h := ?_)
  simp only [Act.put, List.setIfInBounds_toArray, List.set_cons_zero, List.set_cons_succ]
  refine oneA 3 10 hsel (h := ?_)
  simp only [Act.put, List.setIfInBounds_toArray, List.set_cons_zero, List.set_cons_succ]
  refine oneA 4 11 hsel (h := ?_)
  simp only [Act.put, List.setIfInBounds_toArray, List.set_cons_zero, List.set_cons_succ]
  refine oneA 5 12 hsel (h := ?_)
  simp only [Act.put, List.setIfInBounds_toArray, List.set_cons_zero, List.set_cons_succ]
  refine oneA 6 13 hsel (h := ?_)
  simp only [Act.put, List.setIfInBounds_toArray, List.set_cons_zero, List.set_cons_succ]
  refine oneA 7 14 hsel (h := ?_)
  simp only [Act.put, List.setIfInBounds_toArray, List.set_cons_zero, List.set_cons_succ]
  refine oneA 8 15 hsel (h := ?_)
  simp only [Act.put, List.setIfInBounds_toArray, List.set_cons_zero, List.set_cons_succ]
  refine oneA 9 16 hsel (h := ?_)
  simp only [Act.put, List.setIfInBounds_toArray, List.set_cons_zero, List.set_cons_succ]
  refine oneA 10 17 hsel (h := ?_)
  simp only [Act.put, List.setIfInBounds_toArray, List.set_cons_zero, List.set_cons_succ]
  refine oneA 11 18 hsel (h := ?_)
  simp only [Act.put, List.setIfInBounds_toArray, List.set_cons_zero, List.set_cons_succ]
  refine wpAnyL_ready (rs := [12]) (by kernel_rfl) (by kernel_rfl) (by simp) ?_
  refine AllReadyL.cons (o := ?_) ?_ (fun K hK => ?_) AllReadyL.nil
  case refine_2 => (simp only [List.getElem?_cons_succ, List.getElem?_cons_zero]; rfl)
  go_simp
  (go_at_call 55; (with_reducible refine (HKN.out _).mono ?_); rintro ee w1 ⟨rfl, rfl⟩)
  go_wp2_with (fail)
  clear hHeld
  refine hK.out _ _ (KB.out _ HL.out) (fun hHeld => ?_)
  clear hK K
  try simp only [List.set_cons_zero, List.set_cons_succ]
  refine oneA 13 20 hsel (h := ?_)
  simp only [Act.put, List.setIfInBounds_toArray, List.set_cons_zero, List.set_cons_succ]
  refine oneA 14 21 hsel (h := ?_)
  simp only [Act.put, List.setIfInBounds_toArray, List.set_cons_zero, List.set_cons_succ]
  refine wpAnyL_done (by kernel_rfl) (by kernel_rfl) ?_ _
  clear hsel hHeld
  cases kn
  · have hE70 : E = 70 := HEE.out.trans (if_neg (by simp))
    obtain rfl : RV = hdBad 70 := by rw [HRV.out, hE70]; rfl
    obtain ⟨i0, i1, i2, i3⟩ := HI.out.four
    have q0 := HI.out.frozen 0
    have q1 := HI.out.frozen 1
    have q2 := HI.out.frozen 2
    have q3 := HI.out.frozen 3
    clear hE70
    go_wp2
    exact bodyPost_ret (results_cell_tmp rfl rfl (rload_head ((((HI.out.set_ 0 _).set_ 1 _).set_ 2 _).set_ 3 _))) rfl ⟨rfl, ((((HL.out.setCell (p := ⟨w.heap.size, 0, none⟩) (Nat.le_refl _) _).setCell (p := ⟨w.heap.size, 1, none⟩) (Nat.le_refl _) _).setCell (p := ⟨w.heap.size, 2, none⟩) (Nat.le_refl _) _).setCell (p := ⟨w.heap.size, 3, none⟩) (Nat.le_refl _) _)⟩
  go_wp2_with (fail)
  replace HL := Lib.hid HL.out.drew
  replace HI : Hid (Blk wz.drew w.heap.size 64 [.int .i64 0, .int .i64 0, .int .i64 0, .int .i64 0]) := Lib.hid HI.out.drew
  refine wp_region_list (B := [false, false, false, false, false, false, false, false, false, false, false, false, false, false]) (S := (fun W => W.cell? ⟨bl, o, none⟩ = some (.int .u8 k) ∧ W.cell? ⟨bl, o + 1, none⟩ = some (.int .u8 g))) (by kernel_rfl) (by kernel_rfl) (by kernel_rfl) (KB.out _ HL.out) (fun hsel hHeld => ?_)
  obtain ⟨wy, hwy⟩ : ∃ wy, wy = wz.drew := ⟨_, rfl⟩
  rw [← hwy] at HL HI hHeld
  rw [← hwy]
  clear hwy
  have HWY : Hid (w.heap.size ≤ wy.heap.size) := Lib.hid HL.out.size
  have HWN : Hid (w.heap.size ≠ wy.heap.size) := Lib.hid (Nat.ne_of_lt HI.out.lt)
  refine oneA 0 23 hsel (h := ?_)
  simp only [Act.put, List.setIfInBounds_toArray, List.set_cons_zero, List.set_cons_succ]
  refine oneA 1 24 hsel (h := ?_)
  simp only [Act.put, List.setIfInBounds_toArray, List.set_cons_zero, List.set_cons_succ]
  refine oneA 2 25 hsel (h := ?_)
  simp only [Act.put, List.setIfInBounds_toArray, List.set_cons_zero, List.set_cons_succ]
  refine oneA 3 26 hsel (h := ?_)
  simp only [Act.put, List.setIfInBounds_toArray, List.set_cons_zero, List.set_cons_succ]
  refine oneA 4 27 hsel (h := ?_)
  simp only [Act.put, List.setIfInBounds_toArray, List.set_cons_zero, List.set_cons_succ]
  refine oneA 5 28 hsel (h := ?_)
  simp only [Act.put, List.setIfInBounds_toArray, List.set_cons_zero, List.set_cons_succ]
  refine oneA 6 29 hsel (h := ?_)
  simp only [Act.put, List.setIfInBounds_toArray, List.set_cons_zero, List.set_cons_succ]
  refine oneA 7 30 hsel (h := ?_)
  simp only [Act.put, List.setIfInBounds_toArray, List.set_cons_zero, List.set_cons_succ]
  refine oneA 8 31 hsel (h := ?_)
  simp only [Act.put, List.setIfInBounds_toArray, List.set_cons_zero, List.set_cons_succ]
  refine oneA 9 32 hsel (h := ?_)
  simp only [Act.put, List.setIfInBounds_toArray, List.set_cons_zero, List.set_cons_succ]
  refine wpAnyL_ready (rs := [10, 12]) (by kernel_rfl) (by kernel_rfl) (by simp) ?_
  refine AllReadyL.cons (o := ?_) ?_ (fun K hK => ?_) (AllReadyL.cons (o := ?_) ?_ (fun K hK => ?_) AllReadyL.nil)
  case refine_2 => (simp only [List.getElem?_cons_succ, List.getElem?_cons_zero]; rfl)
  case refine_5 => (simp only [List.getElem?_cons_succ, List.getElem?_cons_zero]; rfl)
  case refine_3 =>
    go_simp
    (go_at_call 56; (with_reducible refine (HC2.out _ HL.out).mono ?_); rintro ee w3 ⟨rfl, ho⟩; (replace HI := Lib.hid (HI.out.later ho)); (replace HL := Lib.hid (on_new HL.out ho)); clear ho)
    go_wp2_with (fail)
    clear hHeld
    refine hK.out _ _ (KB.out _ HL.out) (fun hHeld => ?_)
    clear hK K
    try simp only [List.set_cons_zero, List.set_cons_succ]
    refine oneA 11 34 hsel (h := ?_)
    simp only [Act.put, List.setIfInBounds_toArray, List.set_cons_zero, List.set_cons_succ]
    refine wpAnyL_ready (rs := [12]) (by kernel_rfl) (by kernel_rfl) (by simp) ?_
    refine AllReadyL.cons (o := ?_) ?_ (fun K hK => ?_) AllReadyL.nil
    case refine_2 => (simp only [List.getElem?_cons_succ, List.getElem?_cons_zero]; rfl)
    go_simp
    clear hHeld
    refine hK.out _ _ (KB.out _ (HL.out.alloc (fun _ h => h) _)) (fun hHeld => ?_)
    clear hK K
    try simp only [List.set_cons_zero, List.set_cons_succ]
    refine wpAnyL_ready (rs := [13]) (by kernel_rfl) (by kernel_rfl) (by simp) ?_
    refine AllReadyL.cons (o := ?_) ?_ (fun K hK => ?_) AllReadyL.nil
    case refine_2 => (simp only [List.getElem?_cons_succ, List.getElem?_cons_zero]; rfl)
    go_simp
    clear hHeld
    refine hK.out _ _ (KB.out _ (HL.out.alloc (fun _ h => h) _)) (fun hHeld => ?_)
    clear hK K
    try simp only [List.set_cons_zero, List.set_cons_succ]
    refine wpAnyL_done (by kernel_rfl) (by kernel_rfl) ?_ _
    clear hsel hHeld
    have HW3 : Hid (w.heap.size < w3.heap.size) := Lib.hid HI.out.lt
    obtain ⟨W5, hW5⟩ : ∃ W5, W5 = w3.alloc (.cells #[.int .i64 (k : Nat), .int .i64 (g : Nat), .int .i64 cv, .int .i64 0] 64) := ⟨_, rfl⟩
    have HH5 : Hid (Blk W5 w3.heap.size 64 [.int .i64 (k : Nat), .int .i64 (g : Nat), .int .i64 cv, .int .i64 0]) := Lib.hid (by rw [hW5]; exact Blk.new w3 64 _)
    have HL5 : Hid (Only (w.heap.size ≤ ·) w W5) := Lib.hid (by rw [hW5]; exact HL.out.alloc (fun _ h => h) _)
    have HI5 : Hid (Blk W5 w.heap.size 64 [.int .i64 0, .int .i64 0, .int .i64 0, .int .i64 0]) := Lib.hid (by rw [hW5]; exact HI.out.alloc _)
    rw [← hW5]
    clear hW5 HI HL 
    obtain ⟨hb, hhb⟩ : ∃ z, z = w3.heap.size := ⟨_, rfl⟩
    rw [← hhb] at HH5 ⊢
    have HNB : Hid (w.heap.size ≠ hb) := Lib.hid (by rw [hhb]; have := HW3.out; omega)
    have HB5 : Hid (w.heap.size ≤ hb) := Lib.hid (by rw [hhb]; exact Nat.le_of_lt HW3.out)
    clear hhb
    have HBW : Hid (w.heap.size ≤ hb) := Lib.hid (by have h1 := HNB.out; have h2 := HB5.out; omega)
    obtain ⟨i0, i1, i2, i3⟩ := HI5.out.four
    have q0 := HI5.out.frozen 0
    have q1 := HI5.out.frozen 1
    have q2 := HI5.out.frozen 2
    have q3 := HI5.out.frozen 3
    obtain ⟨h0, h1, h2, h3⟩ := HH5.out.four
    have p3 := HH5.out.frozen 3
    have hgg3 : g = 1 ∨ g = 2 ∨ g = 3 := by
      have h := HKD.out
      rw [Bool.and_eq_true] at h
      have h2 := h.2
      unfold gen at h2
      rw [decide_eq_true_eq] at h2
      omega
    rcases hgg3 with hgg | hgg | hgg
    · obtain rfl : g = 1 := hgg
      have HIW : Hid (∀ W, Calls Tryd.prog 57 #[.int .i64 1] W fun e w' => e = .returned (.int .i64 4) ∧ W = w') := Lib.hid fun W => rIdWidth_c W 1
      have HE2 : Hid (E = if n < 8 ∨ nv < 0 then 72 else 0) := Lib.hid (HEE.out.trans (by first | exact if_pos rfl | exact if_pos trivial))
      by_cases hnt : n < 8
      · have hnti : (n : Int) < 8 := by omega
        have znt : decide ((n : Int) < 8) = true := decide_eq_true hnti
        have hE72 : E = 72 := HE2.out.trans (if_pos (.inl hnt))
        obtain rfl : RV = hdBad 72 := by rw [HRV.out, hE72]; rfl
        clear hE72
        go_wp2_with (go_at_call 57; (with_reducible refine (HIW.out _).mono ?_); rintro ee w6 ⟨rfl, rfl⟩)
        exact bodyPost_ret (results_cell_tmp rfl rfl (rload_head ((((HI5.out.set_ 0 _).set_ 1 _).set_ 2 _).set_ 3 _))) rfl ⟨rfl, ((((HL5.out.setCell (p := ⟨w.heap.size, 0, none⟩) (Nat.le_refl _) _).setCell (p := ⟨w.heap.size, 1, none⟩) (Nat.le_refl _) _).setCell (p := ⟨w.heap.size, 2, none⟩) (Nat.le_refl _) _).setCell (p := ⟨w.heap.size, 3, none⟩) (Nat.le_refl _) _)⟩
      have hnti : ¬ (n : Int) < 8 := by omega
      have znt : decide ((n : Int) < 8) = false := decide_eq_false hnti
      have HN : Hid (∀ W, Only (w.heap.size ≤ ·) w W → Calls Tryd.prog 56 #[.slice (some ⟨bl, o + 4, none⟩) 4 (cap - 4)] W (Told W (.int .i64 nv))) := Lib.hid fun W hW => HCX.out W hW (by show 8 ≤ n; omega)
      have y1 : 8 ≤ cap := by omega
      have y2 : (8 : Int) ≤ (cap : Int) := by omega
      have y3 : ¬ cap = 4 := by omega
      by_cases hnv : nv < 0
      · have znv : decide (nv < 0) = true := decide_eq_true hnv
        have hE72 : E = 72 := HE2.out.trans (if_pos (.inr hnv))
        obtain rfl : RV = hdBad 72 := by rw [HRV.out, hE72]; rfl
        clear hE72
        go_wp2_with (first | (go_at_call 57; (with_reducible refine (HIW.out _).mono ?_); rintro ee w6 ⟨rfl, rfl⟩) | (go_at_call 56; (with_reducible refine (HN.out _ HL5.out).mono ?_); rintro ee w8 ⟨rfl, ho⟩; (replace HI5 := Lib.hid (HI5.out.later ho)); (replace HH5 := Lib.hid (HH5.out.later ho)); (replace HL5 := Lib.hid (on_new HL5.out ho)); clear ho; clear i0 i1 i2 i3 q0 q1 q2 q3 h0 h1 h2 h3 p3; (obtain ⟨i0, i1, i2, i3⟩ := HI5.out.four); have q0 := HI5.out.frozen 0; have q1 := HI5.out.frozen 1; have q2 := HI5.out.frozen 2; have q3 := HI5.out.frozen 3; (obtain ⟨h0, h1, h2, h3⟩ := HH5.out.four); have p3 := HH5.out.frozen 3))
        exact bodyPost_ret (results_cell_tmp rfl rfl (rload_head ((((HI5.out.set_ 0 _).set_ 1 _).set_ 2 _).set_ 3 _))) rfl ⟨rfl, ((((HL5.out.setCell (p := ⟨w.heap.size, 0, none⟩) (Nat.le_refl _) _).setCell (p := ⟨w.heap.size, 1, none⟩) (Nat.le_refl _) _).setCell (p := ⟨w.heap.size, 2, none⟩) (Nat.le_refl _) _).setCell (p := ⟨w.heap.size, 3, none⟩) (Nat.le_refl _) _)⟩
      have znv : decide (nv < 0) = false := decide_eq_false hnv
      have hE0 : E = 0 := HE2.out.trans (if_neg (by omega))
      obtain rfl : RV = .tuple #[.agg #[.int .i64 (k : Nat), .int .i64 1, .int .i64 cv, .int .i64 nv], .int .i64 0] := by rw [HRV.out, hE0]; rfl
      clear hE0
      have hd1 : ¬ hb = w.heap.size := fun e => HNB.out e.symm
      have hd2 : ¬ w.heap.size = hb := HNB.out
      go_wp2_with (first | (go_at_call 57; (with_reducible refine (HIW.out _).mono ?_); rintro ee w6 ⟨rfl, rfl⟩) | (go_at_call 56; (with_reducible refine (HN.out _ HL5.out).mono ?_); rintro ee w8 ⟨rfl, ho⟩; (replace HI5 := Lib.hid (HI5.out.later ho)); (replace HH5 := Lib.hid (HH5.out.later ho)); (replace HL5 := Lib.hid (on_new HL5.out ho)); clear ho; clear i0 i1 i2 i3 q0 q1 q2 q3 h0 h1 h2 h3 p3; (obtain ⟨i0, i1, i2, i3⟩ := HI5.out.four); have q0 := HI5.out.frozen 0; have q1 := HI5.out.frozen 1; have q2 := HI5.out.frozen 2; have q3 := HI5.out.frozen 3; (obtain ⟨h0, h1, h2, h3⟩ := HH5.out.four); have p3 := HH5.out.frozen 3))
      exact bodyPost_ret (results_cell_tmp rfl rfl (rload_head (((((HI5.out.far (p := ⟨hb, 3, none⟩) HNB.out _).set_ 0 _).set_ 1 _).set_ 2 _).set_ 3 _))) rfl ⟨rfl, (((((HL5.out.setCell (p := ⟨hb, 3, none⟩) HBW.out _).setCell (p := ⟨w.heap.size, 0, none⟩) (Nat.le_refl _) _).setCell (p := ⟨w.heap.size, 1, none⟩) (Nat.le_refl _) _).setCell (p := ⟨w.heap.size, 2, none⟩) (Nat.le_refl _) _).setCell (p := ⟨w.heap.size, 3, none⟩) (Nat.le_refl _) _)⟩
    · obtain rfl : g = 2 := hgg
      have HIW : Hid (∀ W, Calls Tryd.prog 57 #[.int .i64 2] W fun e w' => e = .returned (.int .i64 8) ∧ W = w') := Lib.hid fun W => rIdWidth_c W 2
      have HE2 : Hid (E = if n < 16 ∨ nv < 0 then 72 else 0) := Lib.hid (HEE.out.trans (by first | exact if_pos rfl | exact if_pos trivial))
      by_cases hnt : n < 16
      · have hnti : (n : Int) < 16 := by omega
        have znt : decide ((n : Int) < 16) = true := decide_eq_true hnti
        have hE72 : E = 72 := HE2.out.trans (if_pos (.inl hnt))
        obtain rfl : RV = hdBad 72 := by rw [HRV.out, hE72]; rfl
        clear hE72
        go_wp2_with (go_at_call 57; (with_reducible refine (HIW.out _).mono ?_); rintro ee w6 ⟨rfl, rfl⟩)
        exact bodyPost_ret (results_cell_tmp rfl rfl (rload_head ((((HI5.out.set_ 0 _).set_ 1 _).set_ 2 _).set_ 3 _))) rfl ⟨rfl, ((((HL5.out.setCell (p := ⟨w.heap.size, 0, none⟩) (Nat.le_refl _) _).setCell (p := ⟨w.heap.size, 1, none⟩) (Nat.le_refl _) _).setCell (p := ⟨w.heap.size, 2, none⟩) (Nat.le_refl _) _).setCell (p := ⟨w.heap.size, 3, none⟩) (Nat.le_refl _) _)⟩
      have hnti : ¬ (n : Int) < 16 := by omega
      have znt : decide ((n : Int) < 16) = false := decide_eq_false hnti
      have HN : Hid (∀ W, Only (w.heap.size ≤ ·) w W → Calls Tryd.prog 56 #[.slice (some ⟨bl, o + 8, none⟩) 8 (cap - 8)] W (Told W (.int .i64 nv))) := Lib.hid fun W hW => HCX.out W hW (by show 16 ≤ n; omega)
      have y1 : 16 ≤ cap := by omega
      have y2 : (16 : Int) ≤ (cap : Int) := by omega
      have y3 : ¬ cap = 8 := by omega
      by_cases hnv : nv < 0
      · have znv : decide (nv < 0) = true := decide_eq_true hnv
        have hE72 : E = 72 := HE2.out.trans (if_pos (.inr hnv))
        obtain rfl : RV = hdBad 72 := by rw [HRV.out, hE72]; rfl
        clear hE72
        go_wp2_with (first | (go_at_call 57; (with_reducible refine (HIW.out _).mono ?_); rintro ee w6 ⟨rfl, rfl⟩) | (go_at_call 56; (with_reducible refine (HN.out _ HL5.out).mono ?_); rintro ee w8 ⟨rfl, ho⟩; (replace HI5 := Lib.hid (HI5.out.later ho)); (replace HH5 := Lib.hid (HH5.out.later ho)); (replace HL5 := Lib.hid (on_new HL5.out ho)); clear ho; clear i0 i1 i2 i3 q0 q1 q2 q3 h0 h1 h2 h3 p3; (obtain ⟨i0, i1, i2, i3⟩ := HI5.out.four); have q0 := HI5.out.frozen 0; have q1 := HI5.out.frozen 1; have q2 := HI5.out.frozen 2; have q3 := HI5.out.frozen 3; (obtain ⟨h0, h1, h2, h3⟩ := HH5.out.four); have p3 := HH5.out.frozen 3))
        exact bodyPost_ret (results_cell_tmp rfl rfl (rload_head ((((HI5.out.set_ 0 _).set_ 1 _).set_ 2 _).set_ 3 _))) rfl ⟨rfl, ((((HL5.out.setCell (p := ⟨w.heap.size, 0, none⟩) (Nat.le_refl _) _).setCell (p := ⟨w.heap.size, 1, none⟩) (Nat.le_refl _) _).setCell (p := ⟨w.heap.size, 2, none⟩) (Nat.le_refl _) _).setCell (p := ⟨w.heap.size, 3, none⟩) (Nat.le_refl _) _)⟩
      have znv : decide (nv < 0) = false := decide_eq_false hnv
      have hE0 : E = 0 := HE2.out.trans (if_neg (by omega))
      obtain rfl : RV = .tuple #[.agg #[.int .i64 (k : Nat), .int .i64 2, .int .i64 cv, .int .i64 nv], .int .i64 0] := by rw [HRV.out, hE0]; rfl
      clear hE0
      have hd1 : ¬ hb = w.heap.size := fun e => HNB.out e.symm
      have hd2 : ¬ w.heap.size = hb := HNB.out
      go_wp2_with (first | (go_at_call 57; (with_reducible refine (HIW.out _).mono ?_); rintro ee w6 ⟨rfl, rfl⟩) | (go_at_call 56; (with_reducible refine (HN.out _ HL5.out).mono ?_); rintro ee w8 ⟨rfl, ho⟩; (replace HI5 := Lib.hid (HI5.out.later ho)); (replace HH5 := Lib.hid (HH5.out.later ho)); (replace HL5 := Lib.hid (on_new HL5.out ho)); clear ho; clear i0 i1 i2 i3 q0 q1 q2 q3 h0 h1 h2 h3 p3; (obtain ⟨i0, i1, i2, i3⟩ := HI5.out.four); have q0 := HI5.out.frozen 0; have q1 := HI5.out.frozen 1; have q2 := HI5.out.frozen 2; have q3 := HI5.out.frozen 3; (obtain ⟨h0, h1, h2, h3⟩ := HH5.out.four); have p3 := HH5.out.frozen 3))
      exact bodyPost_ret (results_cell_tmp rfl rfl (rload_head (((((HI5.out.far (p := ⟨hb, 3, none⟩) HNB.out _).set_ 0 _).set_ 1 _).set_ 2 _).set_ 3 _))) rfl ⟨rfl, (((((HL5.out.setCell (p := ⟨hb, 3, none⟩) HBW.out _).setCell (p := ⟨w.heap.size, 0, none⟩) (Nat.le_refl _) _).setCell (p := ⟨w.heap.size, 1, none⟩) (Nat.le_refl _) _).setCell (p := ⟨w.heap.size, 2, none⟩) (Nat.le_refl _) _).setCell (p := ⟨w.heap.size, 3, none⟩) (Nat.le_refl _) _)⟩
    · obtain rfl : g = 3 := hgg
      have HIW : Hid (∀ W, Calls Tryd.prog 57 #[.int .i64 3] W fun e w' => e = .returned (.int .i64 8) ∧ W = w') := Lib.hid fun W => rIdWidth_c W 3
      have HE2 : Hid (E = if n < 16 ∨ nv < 0 then 72 else 0) := Lib.hid (HEE.out.trans (by first | exact if_pos rfl | exact if_pos trivial))
      by_cases hnt : n < 16
      · have hnti : (n : Int) < 16 := by omega
        have znt : decide ((n : Int) < 16) = true := decide_eq_true hnti
        have hE72 : E = 72 := HE2.out.trans (if_pos (.inl hnt))
        obtain rfl : RV = hdBad 72 := by rw [HRV.out, hE72]; rfl
        clear hE72
        go_wp2_with (go_at_call 57; (with_reducible refine (HIW.out _).mono ?_); rintro ee w6 ⟨rfl, rfl⟩)
        exact bodyPost_ret (results_cell_tmp rfl rfl (rload_head ((((HI5.out.set_ 0 _).set_ 1 _).set_ 2 _).set_ 3 _))) rfl ⟨rfl, ((((HL5.out.setCell (p := ⟨w.heap.size, 0, none⟩) (Nat.le_refl _) _).setCell (p := ⟨w.heap.size, 1, none⟩) (Nat.le_refl _) _).setCell (p := ⟨w.heap.size, 2, none⟩) (Nat.le_refl _) _).setCell (p := ⟨w.heap.size, 3, none⟩) (Nat.le_refl _) _)⟩
      have hnti : ¬ (n : Int) < 16 := by omega
      have znt : decide ((n : Int) < 16) = false := decide_eq_false hnti
      have HN : Hid (∀ W, Only (w.heap.size ≤ ·) w W → Calls Tryd.prog 56 #[.slice (some ⟨bl, o + 8, none⟩) 8 (cap - 8)] W (Told W (.int .i64 nv))) := Lib.hid fun W hW => HCX.out W hW (by show 16 ≤ n; omega)
      have y1 : 16 ≤ cap := by omega
      have y2 : (16 : Int) ≤ (cap : Int) := by omega
      have y3 : ¬ cap = 8 := by omega
      by_cases hnv : nv < 0
      · have znv : decide (nv < 0) = true := decide_eq_true hnv
        have hE72 : E = 72 := HE2.out.trans (if_pos (.inr hnv))
        obtain rfl : RV = hdBad 72 := by rw [HRV.out, hE72]; rfl
        clear hE72
        go_wp2_with (first | (go_at_call 57; (with_reducible refine (HIW.out _).mono ?_); rintro ee w6 ⟨rfl, rfl⟩) | (go_at_call 56; (with_reducible refine (HN.out _ HL5.out).mono ?_); rintro ee w8 ⟨rfl, ho⟩; (replace HI5 := Lib.hid (HI5.out.later ho)); (replace HH5 := Lib.hid (HH5.out.later ho)); (replace HL5 := Lib.hid (on_new HL5.out ho)); clear ho; clear i0 i1 i2 i3 q0 q1 q2 q3 h0 h1 h2 h3 p3; (obtain ⟨i0, i1, i2, i3⟩ := HI5.out.four); have q0 := HI5.out.frozen 0; have q1 := HI5.out.frozen 1; have q2 := HI5.out.frozen 2; have q3 := HI5.out.frozen 3; (obtain ⟨h0, h1, h2, h3⟩ := HH5.out.four); have p3 := HH5.out.frozen 3))
        exact bodyPost_ret (results_cell_tmp rfl rfl (rload_head ((((HI5.out.set_ 0 _).set_ 1 _).set_ 2 _).set_ 3 _))) rfl ⟨rfl, ((((HL5.out.setCell (p := ⟨w.heap.size, 0, none⟩) (Nat.le_refl _) _).setCell (p := ⟨w.heap.size, 1, none⟩) (Nat.le_refl _) _).setCell (p := ⟨w.heap.size, 2, none⟩) (Nat.le_refl _) _).setCell (p := ⟨w.heap.size, 3, none⟩) (Nat.le_refl _) _)⟩
      have znv : decide (nv < 0) = false := decide_eq_false hnv
      have hE0 : E = 0 := HE2.out.trans (if_neg (by omega))
      obtain rfl : RV = .tuple #[.agg #[.int .i64 (k : Nat), .int .i64 3, .int .i64 cv, .int .i64 nv], .int .i64 0] := by rw [HRV.out, hE0]; rfl
      clear hE0
      have hd1 : ¬ hb = w.heap.size := fun e => HNB.out e.symm
      have hd2 : ¬ w.heap.size = hb := HNB.out
      go_wp2_with (first | (go_at_call 57; (with_reducible refine (HIW.out _).mono ?_); rintro ee w6 ⟨rfl, rfl⟩) | (go_at_call 56; (with_reducible refine (HN.out _ HL5.out).mono ?_); rintro ee w8 ⟨rfl, ho⟩; (replace HI5 := Lib.hid (HI5.out.later ho)); (replace HH5 := Lib.hid (HH5.out.later ho)); (replace HL5 := Lib.hid (on_new HL5.out ho)); clear ho; clear i0 i1 i2 i3 q0 q1 q2 q3 h0 h1 h2 h3 p3; (obtain ⟨i0, i1, i2, i3⟩ := HI5.out.four); have q0 := HI5.out.frozen 0; have q1 := HI5.out.frozen 1; have q2 := HI5.out.frozen 2; have q3 := HI5.out.frozen 3; (obtain ⟨h0, h1, h2, h3⟩ := HH5.out.four); have p3 := HH5.out.frozen 3))
      exact bodyPost_ret (results_cell_tmp rfl rfl (rload_head (((((HI5.out.far (p := ⟨hb, 3, none⟩) HNB.out _).set_ 0 _).set_ 1 _).set_ 2 _).set_ 3 _))) rfl ⟨rfl, (((((HL5.out.setCell (p := ⟨hb, 3, none⟩) HBW.out _).setCell (p := ⟨w.heap.size, 0, none⟩) (Nat.le_refl _) _).setCell (p := ⟨w.heap.size, 1, none⟩) (Nat.le_refl _) _).setCell (p := ⟨w.heap.size, 2, none⟩) (Nat.le_refl _) _).setCell (p := ⟨w.heap.size, 3, none⟩) (Nat.le_refl _) _)⟩
  case refine_6 =>
    go_simp
    clear hHeld
    refine hK.out _ _ (KB.out _ (HL.out.alloc (fun _ h => h) _)) (fun hHeld => ?_)
    clear hK K
    try simp only [List.set_cons_zero, List.set_cons_succ]
    have HH := Lib.hid (Blk.new wy 64 [.int .i64 0, .int .i64 0, .int .i64 0, .int .i64 0])
    refine wpAnyL_ready (rs := [10]) (by kernel_rfl) (by kernel_rfl) (by simp) ?_
    refine AllReadyL.cons (o := ?_) ?_ (fun K hK => ?_) AllReadyL.nil
    case refine_2 => (simp only [List.getElem?_cons_succ, List.getElem?_cons_zero]; rfl)
    go_simp
    (go_at_call 56; (with_reducible refine (HC2.out _ (HL.out.alloc (fun _ h => h) _)).mono ?_); rintro ee w3 ⟨rfl, ho⟩; (replace HH := Lib.hid (HH.out.later ho)); (replace HI := Lib.hid ((HI.out.alloc _).later ho)); (replace HL := Lib.hid (on_new (HL.out.alloc (fun _ h => h) _) ho)); clear ho; (obtain ⟨h0, h1, h2, h3⟩ := HH.out.four); have f0 := HH.out.frozen 0; have f1 := HH.out.frozen 1; have f2 := HH.out.frozen 2; have f3 := HH.out.frozen 3)
    go_wp2_with (fail)
    clear hHeld
    refine hK.out _ _ (KB.out _ HL.out) (fun hHeld => ?_)
    clear hK K
    try simp only [List.set_cons_zero, List.set_cons_succ]
    refine oneA 11 34 hsel (h := ?_)
    simp only [Act.put, List.setIfInBounds_toArray, List.set_cons_zero, List.set_cons_succ]
    refine wpAnyL_ready (rs := [13]) (by kernel_rfl) (by kernel_rfl) (by simp) ?_
    refine AllReadyL.cons (o := ?_) ?_ (fun K hK => ?_) AllReadyL.nil
    case refine_2 => (simp only [List.getElem?_cons_succ, List.getElem?_cons_zero]; rfl)
    go_simp
    clear hHeld
    refine hK.out _ _ (KB.out _ ((((HL.out.setCell (p := ⟨wy.heap.size, 0, none⟩) HWY.out _).setCell (p := ⟨wy.heap.size, 1, none⟩) HWY.out _).setCell (p := ⟨wy.heap.size, 2, none⟩) HWY.out _).setCell (p := ⟨wy.heap.size, 3, none⟩) HWY.out _)) (fun hHeld => ?_)
    clear hK K
    try simp only [List.set_cons_zero, List.set_cons_succ]
    refine wpAnyL_done (by kernel_rfl) (by kernel_rfl) ?_ _
    clear hsel hHeld
    obtain ⟨W5, hW5⟩ : ∃ W5, W5 = ((((w3.setCell ⟨wy.heap.size, 0, none⟩ (.int .i64 (k : Nat))).setCell ⟨wy.heap.size, 1, none⟩ (.int .i64 (g : Nat))).setCell ⟨wy.heap.size, 2, none⟩ (.int .i64 cv)).setCell ⟨wy.heap.size, 3, none⟩ (.int .i64 0)) := ⟨_, rfl⟩
    have HH5 : Hid (Blk W5 wy.heap.size 64 [.int .i64 (k : Nat), .int .i64 (g : Nat), .int .i64 cv, .int .i64 0]) := Lib.hid (by rw [hW5]; exact (((HH.out.set_ 0 _).set_ 1 _).set_ 2 _).set_ 3 _)
    have HL5 : Hid (Only (w.heap.size ≤ ·) w W5) := Lib.hid (by rw [hW5]; exact ((((HL.out.setCell (p := ⟨wy.heap.size, 0, none⟩) HWY.out _).setCell (p := ⟨wy.heap.size, 1, none⟩) HWY.out _).setCell (p := ⟨wy.heap.size, 2, none⟩) HWY.out _).setCell (p := ⟨wy.heap.size, 3, none⟩) HWY.out _))
    have HI5 : Hid (Blk W5 w.heap.size 64 [.int .i64 0, .int .i64 0, .int .i64 0, .int .i64 0]) := Lib.hid (by rw [hW5]; exact (((HI.out.far (p := ⟨wy.heap.size, 0, none⟩) HWN.out _).far (p := ⟨wy.heap.size, 1, none⟩) HWN.out _).far (p := ⟨wy.heap.size, 2, none⟩) HWN.out _).far (p := ⟨wy.heap.size, 3, none⟩) HWN.out _)
    rw [← hW5]
    clear hW5 HI HL h0 h1 h2 h3 f0 f1 f2 f3 HH
    obtain ⟨hb, hhb⟩ : ∃ z, z = wy.heap.size := ⟨_, rfl⟩
    rw [← hhb] at HH5 ⊢
    have HNB : Hid (w.heap.size ≠ hb) := Lib.hid (by rw [hhb]; exact HWN.out)
    have HB5 : Hid (w.heap.size ≤ hb) := Lib.hid (by rw [hhb]; exact HWY.out)
    clear hhb
    have HBW : Hid (w.heap.size ≤ hb) := Lib.hid (by have h1 := HNB.out; have h2 := HB5.out; omega)
    obtain ⟨i0, i1, i2, i3⟩ := HI5.out.four
    have q0 := HI5.out.frozen 0
    have q1 := HI5.out.frozen 1
    have q2 := HI5.out.frozen 2
    have q3 := HI5.out.frozen 3
    obtain ⟨h0, h1, h2, h3⟩ := HH5.out.four
    have p3 := HH5.out.frozen 3
    have hgg3 : g = 1 ∨ g = 2 ∨ g = 3 := by
      have h := HKD.out
      rw [Bool.and_eq_true] at h
      have h2 := h.2
      unfold gen at h2
      rw [decide_eq_true_eq] at h2
      omega
    rcases hgg3 with hgg | hgg | hgg
    · obtain rfl : g = 1 := hgg
      have HIW : Hid (∀ W, Calls Tryd.prog 57 #[.int .i64 1] W fun e w' => e = .returned (.int .i64 4) ∧ W = w') := Lib.hid fun W => rIdWidth_c W 1
      have HE2 : Hid (E = if n < 8 ∨ nv < 0 then 72 else 0) := Lib.hid (HEE.out.trans (by first | exact if_pos rfl | exact if_pos trivial))
      by_cases hnt : n < 8
      · have hnti : (n : Int) < 8 := by omega
        have znt : decide ((n : Int) < 8) = true := decide_eq_true hnti
        have hE72 : E = 72 := HE2.out.trans (if_pos (.inl hnt))
        obtain rfl : RV = hdBad 72 := by rw [HRV.out, hE72]; rfl
        clear hE72
        go_wp2_with (go_at_call 57; (with_reducible refine (HIW.out _).mono ?_); rintro ee w6 ⟨rfl, rfl⟩)
        exact bodyPost_ret (results_cell_tmp rfl rfl (rload_head ((((HI5.out.set_ 0 _).set_ 1 _).set_ 2 _).set_ 3 _))) rfl ⟨rfl, ((((HL5.out.setCell (p := ⟨w.heap.size, 0, none⟩) (Nat.le_refl _) _).setCell (p := ⟨w.heap.size, 1, none⟩) (Nat.le_refl _) _).setCell (p := ⟨w.heap.size, 2, none⟩) (Nat.le_refl _) _).setCell (p := ⟨w.heap.size, 3, none⟩) (Nat.le_refl _) _)⟩
      have hnti : ¬ (n : Int) < 8 := by omega
      have znt : decide ((n : Int) < 8) = false := decide_eq_false hnti
      have HN : Hid (∀ W, Only (w.heap.size ≤ ·) w W → Calls Tryd.prog 56 #[.slice (some ⟨bl, o + 4, none⟩) 4 (cap - 4)] W (Told W (.int .i64 nv))) := Lib.hid fun W hW => HCX.out W hW (by show 8 ≤ n; omega)
      have y1 : 8 ≤ cap := by omega
      have y2 : (8 : Int) ≤ (cap : Int) := by omega
      have y3 : ¬ cap = 4 := by omega
      by_cases hnv : nv < 0
      · have znv : decide (nv < 0) = true := decide_eq_true hnv
        have hE72 : E = 72 := HE2.out.trans (if_pos (.inr hnv))
        obtain rfl : RV = hdBad 72 := by rw [HRV.out, hE72]; rfl
        clear hE72
        go_wp2_with (first | (go_at_call 57; (with_reducible refine (HIW.out _).mono ?_); rintro ee w6 ⟨rfl, rfl⟩) | (go_at_call 56; (with_reducible refine (HN.out _ HL5.out).mono ?_); rintro ee w8 ⟨rfl, ho⟩; (replace HI5 := Lib.hid (HI5.out.later ho)); (replace HH5 := Lib.hid (HH5.out.later ho)); (replace HL5 := Lib.hid (on_new HL5.out ho)); clear ho; clear i0 i1 i2 i3 q0 q1 q2 q3 h0 h1 h2 h3 p3; (obtain ⟨i0, i1, i2, i3⟩ := HI5.out.four); have q0 := HI5.out.frozen 0; have q1 := HI5.out.frozen 1; have q2 := HI5.out.frozen 2; have q3 := HI5.out.frozen 3; (obtain ⟨h0, h1, h2, h3⟩ := HH5.out.four); have p3 := HH5.out.frozen 3))
        exact bodyPost_ret (results_cell_tmp rfl rfl (rload_head ((((HI5.out.set_ 0 _).set_ 1 _).set_ 2 _).set_ 3 _))) rfl ⟨rfl, ((((HL5.out.setCell (p := ⟨w.heap.size, 0, none⟩) (Nat.le_refl _) _).setCell (p := ⟨w.heap.size, 1, none⟩) (Nat.le_refl _) _).setCell (p := ⟨w.heap.size, 2, none⟩) (Nat.le_refl _) _).setCell (p := ⟨w.heap.size, 3, none⟩) (Nat.le_refl _) _)⟩
      have znv : decide (nv < 0) = false := decide_eq_false hnv
      have hE0 : E = 0 := HE2.out.trans (if_neg (by omega))
      obtain rfl : RV = .tuple #[.agg #[.int .i64 (k : Nat), .int .i64 1, .int .i64 cv, .int .i64 nv], .int .i64 0] := by rw [HRV.out, hE0]; rfl
      clear hE0
      have hd1 : ¬ hb = w.heap.size := fun e => HNB.out e.symm
      have hd2 : ¬ w.heap.size = hb := HNB.out
      go_wp2_with (first | (go_at_call 57; (with_reducible refine (HIW.out _).mono ?_); rintro ee w6 ⟨rfl, rfl⟩) | (go_at_call 56; (with_reducible refine (HN.out _ HL5.out).mono ?_); rintro ee w8 ⟨rfl, ho⟩; (replace HI5 := Lib.hid (HI5.out.later ho)); (replace HH5 := Lib.hid (HH5.out.later ho)); (replace HL5 := Lib.hid (on_new HL5.out ho)); clear ho; clear i0 i1 i2 i3 q0 q1 q2 q3 h0 h1 h2 h3 p3; (obtain ⟨i0, i1, i2, i3⟩ := HI5.out.four); have q0 := HI5.out.frozen 0; have q1 := HI5.out.frozen 1; have q2 := HI5.out.frozen 2; have q3 := HI5.out.frozen 3; (obtain ⟨h0, h1, h2, h3⟩ := HH5.out.four); have p3 := HH5.out.frozen 3))
      exact bodyPost_ret (results_cell_tmp rfl rfl (rload_head (((((HI5.out.far (p := ⟨hb, 3, none⟩) HNB.out _).set_ 0 _).set_ 1 _).set_ 2 _).set_ 3 _))) rfl ⟨rfl, (((((HL5.out.setCell (p := ⟨hb, 3, none⟩) HBW.out _).setCell (p := ⟨w.heap.size, 0, none⟩) (Nat.le_refl _) _).setCell (p := ⟨w.heap.size, 1, none⟩) (Nat.le_refl _) _).setCell (p := ⟨w.heap.size, 2, none⟩) (Nat.le_refl _) _).setCell (p := ⟨w.heap.size, 3, none⟩) (Nat.le_refl _) _)⟩
    · obtain rfl : g = 2 := hgg
      have HIW : Hid (∀ W, Calls Tryd.prog 57 #[.int .i64 2] W fun e w' => e = .returned (.int .i64 8) ∧ W = w') := Lib.hid fun W => rIdWidth_c W 2
      have HE2 : Hid (E = if n < 16 ∨ nv < 0 then 72 else 0) := Lib.hid (HEE.out.trans (by first | exact if_pos rfl | exact if_pos trivial))
      by_cases hnt : n < 16
      · have hnti : (n : Int) < 16 := by omega
        have znt : decide ((n : Int) < 16) = true := decide_eq_true hnti
        have hE72 : E = 72 := HE2.out.trans (if_pos (.inl hnt))
        obtain rfl : RV = hdBad 72 := by rw [HRV.out, hE72]; rfl
        clear hE72
        go_wp2_with (go_at_call 57; (with_reducible refine (HIW.out _).mono ?_); rintro ee w6 ⟨rfl, rfl⟩)
        exact bodyPost_ret (results_cell_tmp rfl rfl (rload_head ((((HI5.out.set_ 0 _).set_ 1 _).set_ 2 _).set_ 3 _))) rfl ⟨rfl, ((((HL5.out.setCell (p := ⟨w.heap.size, 0, none⟩) (Nat.le_refl _) _).setCell (p := ⟨w.heap.size, 1, none⟩) (Nat.le_refl _) _).setCell (p := ⟨w.heap.size, 2, none⟩) (Nat.le_refl _) _).setCell (p := ⟨w.heap.size, 3, none⟩) (Nat.le_refl _) _)⟩
      have hnti : ¬ (n : Int) < 16 := by omega
      have znt : decide ((n : Int) < 16) = false := decide_eq_false hnti
      have HN : Hid (∀ W, Only (w.heap.size ≤ ·) w W → Calls Tryd.prog 56 #[.slice (some ⟨bl, o + 8, none⟩) 8 (cap - 8)] W (Told W (.int .i64 nv))) := Lib.hid fun W hW => HCX.out W hW (by show 16 ≤ n; omega)
      have y1 : 16 ≤ cap := by omega
      have y2 : (16 : Int) ≤ (cap : Int) := by omega
      have y3 : ¬ cap = 8 := by omega
      by_cases hnv : nv < 0
      · have znv : decide (nv < 0) = true := decide_eq_true hnv
        have hE72 : E = 72 := HE2.out.trans (if_pos (.inr hnv))
        obtain rfl : RV = hdBad 72 := by rw [HRV.out, hE72]; rfl
        clear hE72
        go_wp2_with (first | (go_at_call 57; (with_reducible refine (HIW.out _).mono ?_); rintro ee w6 ⟨rfl, rfl⟩) | (go_at_call 56; (with_reducible refine (HN.out _ HL5.out).mono ?_); rintro ee w8 ⟨rfl, ho⟩; (replace HI5 := Lib.hid (HI5.out.later ho)); (replace HH5 := Lib.hid (HH5.out.later ho)); (replace HL5 := Lib.hid (on_new HL5.out ho)); clear ho; clear i0 i1 i2 i3 q0 q1 q2 q3 h0 h1 h2 h3 p3; (obtain ⟨i0, i1, i2, i3⟩ := HI5.out.four); have q0 := HI5.out.frozen 0; have q1 := HI5.out.frozen 1; have q2 := HI5.out.frozen 2; have q3 := HI5.out.frozen 3; (obtain ⟨h0, h1, h2, h3⟩ := HH5.out.four); have p3 := HH5.out.frozen 3))
        exact bodyPost_ret (results_cell_tmp rfl rfl (rload_head ((((HI5.out.set_ 0 _).set_ 1 _).set_ 2 _).set_ 3 _))) rfl ⟨rfl, ((((HL5.out.setCell (p := ⟨w.heap.size, 0, none⟩) (Nat.le_refl _) _).setCell (p := ⟨w.heap.size, 1, none⟩) (Nat.le_refl _) _).setCell (p := ⟨w.heap.size, 2, none⟩) (Nat.le_refl _) _).setCell (p := ⟨w.heap.size, 3, none⟩) (Nat.le_refl _) _)⟩
      have znv : decide (nv < 0) = false := decide_eq_false hnv
      have hE0 : E = 0 := HE2.out.trans (if_neg (by omega))
      obtain rfl : RV = .tuple #[.agg #[.int .i64 (k : Nat), .int .i64 2, .int .i64 cv, .int .i64 nv], .int .i64 0] := by rw [HRV.out, hE0]; rfl
      clear hE0
      have hd1 : ¬ hb = w.heap.size := fun e => HNB.out e.symm
      have hd2 : ¬ w.heap.size = hb := HNB.out
      go_wp2_with (first | (go_at_call 57; (with_reducible refine (HIW.out _).mono ?_); rintro ee w6 ⟨rfl, rfl⟩) | (go_at_call 56; (with_reducible refine (HN.out _ HL5.out).mono ?_); rintro ee w8 ⟨rfl, ho⟩; (replace HI5 := Lib.hid (HI5.out.later ho)); (replace HH5 := Lib.hid (HH5.out.later ho)); (replace HL5 := Lib.hid (on_new HL5.out ho)); clear ho; clear i0 i1 i2 i3 q0 q1 q2 q3 h0 h1 h2 h3 p3; (obtain ⟨i0, i1, i2, i3⟩ := HI5.out.four); have q0 := HI5.out.frozen 0; have q1 := HI5.out.frozen 1; have q2 := HI5.out.frozen 2; have q3 := HI5.out.frozen 3; (obtain ⟨h0, h1, h2, h3⟩ := HH5.out.four); have p3 := HH5.out.frozen 3))
      exact bodyPost_ret (results_cell_tmp rfl rfl (rload_head (((((HI5.out.far (p := ⟨hb, 3, none⟩) HNB.out _).set_ 0 _).set_ 1 _).set_ 2 _).set_ 3 _))) rfl ⟨rfl, (((((HL5.out.setCell (p := ⟨hb, 3, none⟩) HBW.out _).setCell (p := ⟨w.heap.size, 0, none⟩) (Nat.le_refl _) _).setCell (p := ⟨w.heap.size, 1, none⟩) (Nat.le_refl _) _).setCell (p := ⟨w.heap.size, 2, none⟩) (Nat.le_refl _) _).setCell (p := ⟨w.heap.size, 3, none⟩) (Nat.le_refl _) _)⟩
    · obtain rfl : g = 3 := hgg
      have HIW : Hid (∀ W, Calls Tryd.prog 57 #[.int .i64 3] W fun e w' => e = .returned (.int .i64 8) ∧ W = w') := Lib.hid fun W => rIdWidth_c W 3
      have HE2 : Hid (E = if n < 16 ∨ nv < 0 then 72 else 0) := Lib.hid (HEE.out.trans (by first | exact if_pos rfl | exact if_pos trivial))
      by_cases hnt : n < 16
      · have hnti : (n : Int) < 16 := by omega
        have znt : decide ((n : Int) < 16) = true := decide_eq_true hnti
        have hE72 : E = 72 := HE2.out.trans (if_pos (.inl hnt))
        obtain rfl : RV = hdBad 72 := by rw [HRV.out, hE72]; rfl
        clear hE72
        go_wp2_with (go_at_call 57; (with_reducible refine (HIW.out _).mono ?_); rintro ee w6 ⟨rfl, rfl⟩)
        exact bodyPost_ret (results_cell_tmp rfl rfl (rload_head ((((HI5.out.set_ 0 _).set_ 1 _).set_ 2 _).set_ 3 _))) rfl ⟨rfl, ((((HL5.out.setCell (p := ⟨w.heap.size, 0, none⟩) (Nat.le_refl _) _).setCell (p := ⟨w.heap.size, 1, none⟩) (Nat.le_refl _) _).setCell (p := ⟨w.heap.size, 2, none⟩) (Nat.le_refl _) _).setCell (p := ⟨w.heap.size, 3, none⟩) (Nat.le_refl _) _)⟩
      have hnti : ¬ (n : Int) < 16 := by omega
      have znt : decide ((n : Int) < 16) = false := decide_eq_false hnti
      have HN : Hid (∀ W, Only (w.heap.size ≤ ·) w W → Calls Tryd.prog 56 #[.slice (some ⟨bl, o + 8, none⟩) 8 (cap - 8)] W (Told W (.int .i64 nv))) := Lib.hid fun W hW => HCX.out W hW (by show 16 ≤ n; omega)
      have y1 : 16 ≤ cap := by omega
      have y2 : (16 : Int) ≤ (cap : Int) := by omega
      have y3 : ¬ cap = 8 := by omega
      by_cases hnv : nv < 0
      · have znv : decide (nv < 0) = true := decide_eq_true hnv
        have hE72 : E = 72 := HE2.out.trans (if_pos (.inr hnv))
        obtain rfl : RV = hdBad 72 := by rw [HRV.out, hE72]; rfl
        clear hE72
        go_wp2_with (first | (go_at_call 57; (with_reducible refine (HIW.out _).mono ?_); rintro ee w6 ⟨rfl, rfl⟩) | (go_at_call 56; (with_reducible refine (HN.out _ HL5.out).mono ?_); rintro ee w8 ⟨rfl, ho⟩; (replace HI5 := Lib.hid (HI5.out.later ho)); (replace HH5 := Lib.hid (HH5.out.later ho)); (replace HL5 := Lib.hid (on_new HL5.out ho)); clear ho; clear i0 i1 i2 i3 q0 q1 q2 q3 h0 h1 h2 h3 p3; (obtain ⟨i0, i1, i2, i3⟩ := HI5.out.four); have q0 := HI5.out.frozen 0; have q1 := HI5.out.frozen 1; have q2 := HI5.out.frozen 2; have q3 := HI5.out.frozen 3; (obtain ⟨h0, h1, h2, h3⟩ := HH5.out.four); have p3 := HH5.out.frozen 3))
        exact bodyPost_ret (results_cell_tmp rfl rfl (rload_head ((((HI5.out.set_ 0 _).set_ 1 _).set_ 2 _).set_ 3 _))) rfl ⟨rfl, ((((HL5.out.setCell (p := ⟨w.heap.size, 0, none⟩) (Nat.le_refl _) _).setCell (p := ⟨w.heap.size, 1, none⟩) (Nat.le_refl _) _).setCell (p := ⟨w.heap.size, 2, none⟩) (Nat.le_refl _) _).setCell (p := ⟨w.heap.size, 3, none⟩) (Nat.le_refl _) _)⟩
      have znv : decide (nv < 0) = false := decide_eq_false hnv
      have hE0 : E = 0 := HE2.out.trans (if_neg (by omega))
      obtain rfl : RV = .tuple #[.agg #[.int .i64 (k : Nat), .int .i64 3, .int .i64 cv, .int .i64 nv], .int .i64 0] := by rw [HRV.out, hE0]; rfl
      clear hE0
      have hd1 : ¬ hb = w.heap.size := fun e => HNB.out e.symm
      have hd2 : ¬ w.heap.size = hb := HNB.out
      go_wp2_with (first | (go_at_call 57; (with_reducible refine (HIW.out _).mono ?_); rintro ee w6 ⟨rfl, rfl⟩) | (go_at_call 56; (with_reducible refine (HN.out _ HL5.out).mono ?_); rintro ee w8 ⟨rfl, ho⟩; (replace HI5 := Lib.hid (HI5.out.later ho)); (replace HH5 := Lib.hid (HH5.out.later ho)); (replace HL5 := Lib.hid (on_new HL5.out ho)); clear ho; clear i0 i1 i2 i3 q0 q1 q2 q3 h0 h1 h2 h3 p3; (obtain ⟨i0, i1, i2, i3⟩ := HI5.out.four); have q0 := HI5.out.frozen 0; have q1 := HI5.out.frozen 1; have q2 := HI5.out.frozen 2; have q3 := HI5.out.frozen 3; (obtain ⟨h0, h1, h2, h3⟩ := HH5.out.four); have p3 := HH5.out.frozen 3))
      exact bodyPost_ret (results_cell_tmp rfl rfl (rload_head (((((HI5.out.far (p := ⟨hb, 3, none⟩) HNB.out _).set_ 0 _).set_ 1 _).set_ 2 _).set_ 3 _))) rfl ⟨rfl, (((((HL5.out.setCell (p := ⟨hb, 3, none⟩) HBW.out _).setCell (p := ⟨w.heap.size, 0, none⟩) (Nat.le_refl _) _).setCell (p := ⟨w.heap.size, 1, none⟩) (Nat.le_refl _) _).setCell (p := ⟨w.heap.size, 2, none⟩) (Nat.le_refl _) _).setCell (p := ⟨w.heap.size, 3, none⟩) (Nat.le_refl _) _)⟩
end Go.Proofs.YtbgnfocfnjlabaaDoor
